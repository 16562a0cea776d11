/- Ciphers of any key and number: the law's walk. -/
import Derived.Test.YtdlmmcilembjgaaDoorGf
import Derived.Test.YtdlmmcilembjgaaDoorGg
namespace Go.Proofs.YtdlmmcilembjgaaDoor
open Go.ChangeShapes Go.WideShapes Go.ChangeAt Go.RowKit
set_option linter.unusedSimpArgs false
set_option linter.unusedVariables false

theorem Own.first16 {e : TypeId} {w0 w : World} {v : Value} {l : List UInt8} {L : List (Value × List UInt8)} (h : Own e w0 ((v, l) :: L) w) : New e w0 v l w := ⟨h.rows _ (List.mem_cons_self ..), h.below⟩
theorem build_kd (a : Option Addr) (l c : Nat) (x : Int) (w : World) : (Instr.build 27 #[(0, .slice a l c), (1, .int .u64 x)]).run Tryd.prog w = .ok (.agg #[.slice a l c, .int .u64 x]) w := by kernel_rfl
theorem seC_err' (c : Cph) (a t : List UInt8) (h : (seC c a t).2.2 ≠ 0) : (seC c a t).1.n = c.n := by rw [seC_err c a t h]

set_option maxRecDepth 100000 in
set_option maxHeartbeats 8000000 in
theorem ciphers_walk (vk va vb : Value) (key ad b : List UInt8) (n : Nat) (rekey : Bool) (hn : n < 18446744073709551616) (w : World) (hk : Rd w vk key) (ha : Rd w va ad) (hb : Rd w vb b) (ht : Tabs w) (hp : PlT w) (hkp : KpT w) :
  Calls Tryd.prog 3 #[vk, .int .u64 (n : Int), va, vb, .bool rekey] w fun e w' => e = .returned (.bool true) ∧ Below w.heap.size w w' := by
 have HT : Hid (Tabs w) := ht
 have HP : Hid (PlT w) := hp
 have HKp : Hid (KpT w) := hkp
 have HN : Hid (n < 18446744073709551616) := hn
 obtain ⟨ak, ck, rfl, hck, hmk, -, -⟩ := id hk
 obtain ⟨aa, ca, rfl, hca, hma, -, -⟩ := id ha
 obtain ⟨ab, cb, rfl, hcb, hmb, -, -⟩ := id hb
 have HK : Hid (Rd w (.slice ak key.length ck) key) := hk
 have HA : Hid (Rd w (.slice aa ad.length ca) ad) := ha
 have HBb : Hid (Rd w (.slice ab b.length cb) b) := hb
 unfold maxLen at hmk hma hmb
 clear ht hp hkp hk ha hb hn
 go_enter Tryd.func3, Tryd.ntmps3
 go_wp2_with fail
 refine (awake_any w HT.out HP.out HKp.out).mono ?_
 rintro e w1 ⟨rfl, b1⟩
 have HB1 : Hid (Below w.heap.size w w1) := b1
 clear b1
 by_cases h1 : 100 < key.length
 ·have d1 : decide ((100 : Int) < (key.length : Int)) = true := decide_eq_true (by omega)
  go_wp2_with fail
  go_ret
  exact ⟨rfl, HB1.out⟩
 have d1 : decide ((100 : Int) < (key.length : Int)) = false := decide_eq_false (by omega)
 by_cases h2 : 500 < ad.length
 ·have d2 : decide ((500 : Int) < (ad.length : Int)) = true := decide_eq_true (by omega)
  go_wp2_with fail
  go_ret
  exact ⟨rfl, HB1.out⟩
 have d2 : decide ((500 : Int) < (ad.length : Int)) = false := decide_eq_false (by omega)
 by_cases h3 : 500 < b.length
 ·have d3 : decide ((500 : Int) < (b.length : Int)) = true := decide_eq_true (by omega)
  go_wp2_with fail
  go_ret
  exact ⟨rfl, HB1.out⟩
 have d3 : decide ((500 : Int) < (b.length : Int)) = false := decide_eq_false (by omega)
 have HLs : Hid (key.length ≤ 100 ∧ ad.length ≤ 500 ∧ b.length ≤ 500) := (by omega : key.length ≤ 100 ∧ ad.length ≤ 500 ∧ b.length ≤ 500)
 clear h1 h2 h3
 have hO0 : Own 5 w1 [(.slice none 0 0, [])] w1 := (Own.start 5 w1).nil
 go_wp2_with (at_builtin; go_must (refine wpList_append_Own (w0 := w1) rfl _ _ 22 rfl Tryd.underlying22 infoU8 _ _ rfl hO0 _ _ rfl (HK.out.kept HB1.out) (by have := HLs.out; simp; omega) ?_))
 intro vx w2 hO5
 have hN2 : New 5 w1 vx key w2 := by simpa using hO5.first16
 clear hO0 hO5 d1 d2 d3
 obtain ⟨ax, cx, rfl, -⟩ := id hN2.rd
 have HX : Hid (Rd w2 (.slice ax key.length cx) key) := hN2.rd
 have HB2 : Hid (Below w.heap.size w w2) := stepB HB1.out hN2.2
 clear hN2 HB1
 cases rekey
 all_goals
  go_wp2_with (first | refine wpList_buildB rfl 27 #[(0, .tmp 50), (1, .tmp 51)] rfl #[(0, .slice ax key.length cx), (1, .int .u64 (n : Int))] (by go_simp) (.agg #[.slice ax key.length cx, .int .u64 (n : Int)]) (build_kd _ _ _ _ _) ?_ | (refine wpList_box_blk rfl 27 _ rfl (ckD (.slice ax key.length cx) n) rfl ?_; intro w3 rc b3 s3))
  have b4 : Below w3.heap.size w3 (w3.alloc (.cells #[.slice ak key.length ck, .int .u64 (n : Int)] 28)) := growB _
  have rv : BlkAt w3.heap.size 28 (ciC (.slice ak key.length ck) n) (w3.alloc (.cells #[.slice ak key.length ck, .int .u64 (n : Int)] 28)) := BlkAt.fresh rfl rfl
  generalize hw4 : w3.alloc (.cells #[.slice ak key.length ck, .int .u64 (n : Int)] 28) = w4 at b4 rv ⊢
  have HB4 : Hid (Below w.heap.size w w4) := stepB (stepB HB2.out b3) b4
  have HRC : Hid (BlkAt w2.heap.size 27 (ckD (.slice ax key.length cx) n) w4) := rc.kept b4
  have HRV : Hid (BlkAt w3.heap.size 28 (ciC (.slice ak key.length ck) n) w4) := rv
  have HX4 : Hid (Rd w4 (.slice ax key.length cx) key) := (HX.out.kept b3).kept b4
  have HK4 : Hid (Rd w4 (.slice ak key.length ck) key) := HK.out.kept HB4.out
  have HGc : Hid (w.heap.size ≤ w2.heap.size) := HB2.out.size
  have HGv : Hid (w2.heap.size < w3.heap.size) := (by have := s3.out; omega : w2.heap.size < w3.heap.size)
  clear hw4 rv rc b4 b3 s3 HX HB2
 focus
  obtain ⟨K, axk, cxk, avk, cvk, HRC, HKx, HRV, HKv⟩ : ∃ (K : List UInt8) (axk : Option Addr) (cxk : Nat) (avk : Option Addr) (cvk : Nat), Hid (BlkAt w2.heap.size 27 (ckD (.slice axk K.length cxk) n) w4) ∧ Hid (Rd w4 (.slice axk K.length cxk) K) ∧ Hid (BlkAt w3.heap.size 28 (ciC (.slice avk K.length cvk) n) w4) ∧ Hid (Rd w4 (.slice avk K.length cvk) K) := ⟨key, ax, cx, ak, ck, HRC.out, HX4.out, HRV.out, HK4.out⟩
  clear HX4 HK4
 rotate_left
 focus
  refine (crekey_any ⟨key, n⟩ w2.heap.size 0 27 ne_cipher [] [] rfl ax cx _ HRC.out HX4.out (HP.out.kept HB4.out) (HKp.out.kept HB4.out)).mono ?_
  rintro e w5 ⟨rfl, xp, hxp, c5, hB5⟩
  have HX5 : Hid (Rd w5 xp (rkC ⟨key, n⟩).key) := hxp
  have HRC5 : Hid (BlkAt w2.heap.size 27 (ckD xp n) w5) := hB5
  have HRV5 : Hid (BlkAt w3.heap.size 28 (ciC (.slice ak key.length ck) n) w5) := BlkAt.chg HRV.out c5 (by have := HGv.out; omega)
  have HB5 : Hid (Below w.heap.size w w5) := Chg.gone HB4.out c5 HB4.out.size HGc.out
  clear hxp c5 hB5 HB4 HRC HRV HX4 HK4
  go_wp2_with (refine wpList_load_part rfl 28 _ rfl rfl [] (ciC (.slice ak key.length ck) n) [] HRV5.out (whole16 _) rfl Tryd.underlying28 rfl (info_ci _ _) ?_)
  go_wp2_with fail
  refine (rekey16_any ⟨key, n⟩ _ _ rfl HN.out _ (HK.out.kept HB5.out)).mono ?_
  rintro e w6 ⟨vr, rfl, hvr, b6⟩
  obtain ⟨avk, cvk, rfl, -⟩ := id hvr
  have HV6 : Hid (Rd w6 _ (rkC ⟨key, n⟩).key) := hvr
  have HRV6 := HRV5.out.kept b6
  clear hvr HRV5
  go_wp2_with (refine wpList_store_part rfl 28 _ _ rfl rfl (ciC (.slice avk (rkC ⟨key, n⟩).key.length cvk) n) rfl [] (ciC (.slice ak key.length ck) n) [] (ciC (.slice avk (rkC ⟨key, n⟩).key.length cvk) n) HRV6 (whole16 _) (whole16 _) rfl rfl (info_ci (.slice ak key.length ck) n) (ciC_all _ _ _ _) ?_; intro w4 r4 hw4)
  have cw4 := Chg.of_wrote hw4
  have HB4 : Hid (Below w.heap.size w w4) := hw4.below _ _ (Nat.le_trans HGc.out (Nat.le_of_lt HGv.out)) (stepB HB5.out b6)
  obtain ⟨axk, cxk, rfl, -⟩ := id HX5.out
  obtain ⟨K, axk, cxk, avk, cvk, HRC, HKx, HRV, HKv⟩ : ∃ (K : List UInt8) (axk : Option Addr) (cxk : Nat) (avk : Option Addr) (cvk : Nat), Hid (BlkAt w2.heap.size 27 (ckD (.slice axk K.length cxk) n) w4) ∧ Hid (Rd w4 (.slice axk K.length cxk) K) ∧ Hid (BlkAt w3.heap.size 28 (ciC (.slice avk K.length cvk) n) w4) ∧ Hid (Rd w4 (.slice avk K.length cvk) K) :=
   ⟨_, axk, cxk, avk, cvk, (BlkAt.kept HRC5.out b6).wrote hw4 (by have := HGv.out; omega), (HX5.out.kept b6).past16 HRV6 (ckD_no8 _ _ _ _) cw4, r4, HV6.out.past16 HRV6 (ckD_no8 _ _ _ _) cw4⟩
  clear cw4 hw4 r4 HRV6 HX5 HV6 HRC5 HB5 b6
 all_goals
  have herr := seC_err' ⟨K, n⟩ ad b
  have hfac := seC_facts ⟨K, n⟩ ad b HN.out
  obtain ⟨Q, hQ⟩ : ∃ Q, Q = seC ⟨K, n⟩ ad b := ⟨_, rfl⟩
  rw [← hQ] at herr hfac
  obtain ⟨⟨kq, m⟩, X, E⟩ := Q
  obtain ⟨hkq, hm, hX⟩ := hfac
  replace hkq : kq = K := hkq
  subst hkq
  have HQ : Hid (((⟨kq, m⟩ : Cph), X, E) = seC ⟨kq, n⟩ ad b) := hQ
  have HEm : Hid (E ≠ 0 → m = n) := herr
  have HXl : Hid (X.length ≤ b.length + 16) := hX
  clear hQ herr hX hm
  refine (cseal_any ⟨kq, n⟩ HN.out ad b (by have := HLs.out; omega) (by have := HLs.out; omega) w2.heap.size 0 27 ne_cipher [] [] rfl axk cxk _ _ _ HRC.out HKx.out (HA.out.kept HB4.out) (HBb.out.kept HB4.out) (HP.out.kept HB4.out) (HKp.out.kept HB4.out)).mono ?_
  rw [← HQ.out]
  rintro e w7 ⟨x, rfl, hx, c7, hB7⟩
  replace hx : Ow 5 w4.heap.size x X w7 := hx
  have HRC7 : Hid (BlkAt w2.heap.size 27 (ckD (.slice axk kq.length cxk) m) w7) := hB7
  have HRV7 : Hid (BlkAt w3.heap.size 28 (ciC (.slice avk kq.length cvk) n) w7) := BlkAt.chg HRV.out c7 (by have := HGv.out; omega)
  have HKx7 : Hid (Rd w7 (.slice axk kq.length cxk) kq) := Rd.past16 HKx.out HRC.out (ckD_no8 _ _ _ _) c7
  have HKv7 : Hid (Rd w7 (.slice avk kq.length cvk) kq) := Rd.past16 HKv.out HRC.out (ckD_no8 _ _ _ _) c7
  have HB7 : Hid (Below w.heap.size w w7) := Chg.gone HB4.out c7 HB4.out.size HGc.out
  obtain ⟨axx, cxx, rfl, -⟩ := id hx.rd
  have HX7 : Hid (Rd w7 (.slice axx X.length cxx) X) := hx.rd
  clear hx c7 hB7 HRC HKx HRV HKv HB4
  go_wp2_with (refine wpList_load_part rfl 28 _ rfl rfl [] (ciC (.slice avk kq.length cvk) n) [] HRV7.out (whole16 _) rfl Tryd.underlying28 rfl (info_ci _ _) ?_)
  go_wp2_with fail
  refine (seal16_any ⟨kq, n⟩ _ _ _ ad b _ rfl HN.out (by have := HLs.out; omega) (by have := HLs.out; omega) _ HKv7.out (HA.out.kept HB7.out) (HBb.out.kept HB7.out)).mono ?_
  rw [← HQ.out]
  rintro e w8 ⟨y, rfl, hy, b8⟩
  replace hy : Rd w8 y X := hy
  obtain ⟨ay, cy, rfl, -⟩ := id hy
  have HY8 : Hid (Rd w8 (.slice ay X.length cy) X) := hy
  go_wp2_with (first | (refine wpList_alloc_blk rfl 28 rfl (ciC (.slice none 0 0) 0) (alloc_ci _) ?_; intro wa ra ba sa) | (refine wpList_store_part rfl 28 _ _ rfl rfl (ciC (.slice avk kq.length cvk) m) rfl [] (ciC (.slice none 0 0) 0) [] (ciC (.slice avk kq.length cvk) m) ra (whole16 _) (whole16 _) rfl rfl (info_ci (.slice none 0 0) 0) (ciC_all _ _ _ _) ?_; intro w9 rv hw9))
  have b9 : Below w8.heap.size w8 w9 := hw9.below _ _ (Nat.le_refl _) ba
  have b89 := stepB b8 b9
  have HB9 : Hid (Below w.heap.size w w9) := stepB HB7.out b89
  have HRC9 : Hid (BlkAt w2.heap.size 27 (ckD (.slice axk kq.length cxk) m) w9) := BlkAt.kept HRC7.out b89
  have HRV9 : Hid (BlkAt w3.heap.size 28 (ciC (.slice avk kq.length cvk) n) w9) := BlkAt.kept HRV7.out b89
  have HKx9 : Hid (Rd w9 (.slice axk kq.length cxk) kq) := HKx7.out.kept b89
  have HKv9 : Hid (Rd w9 (.slice avk kq.length cvk) kq) := HKv7.out.kept b89
  have HX9 : Hid (Rd w9 (.slice axx X.length cxx) X) := HX7.out.kept b89
  have HY9 : Hid (Rd w9 (.slice ay X.length cy) X) := HY8.out.kept b9
  have n0 : w9.cell? ⟨w2.heap.size, 0, none⟩ = some (.slice axk kq.length cxk) := BlkAt.cell HRC9.out 0
  have n1 : w9.cell? ⟨w2.heap.size, 1, none⟩ = some (.int .u64 (m : Int)) := BlkAt.cell HRC9.out 1
  have n2 : w9.cell? ⟨w8.heap.size, 0, none⟩ = some (.slice avk kq.length cvk) := rv.cell 0
  have n3 : w9.cell? ⟨w8.heap.size, 1, none⟩ = some (.int .u64 (m : Int)) := rv.cell 1
  clear hw9 rv b8 b9 b89 HRC7 HRV7 HKx7 HKv7 HX7 HY8 hy HB7 ra ba sa
  rcases Classical.em (E = 0) with hE | hE
  focus
   have HE : Hid (E = 0) := hE
   subst hE
   refine wpG_begin (by kernel_rfl) ?_
   refine wpG_t (i := 0) (oi := ⟨some 77, .move (.tmp 16), 30, "law.go:111", #[], none⟩) (v := ?_) ?_ ?_
   rotate_left
   ·intro W hW; go_simp <;> with_reducible rfl
   try simp only [Act.put, putA, putB, putC]
   refine wpG_t (i := 1) (oi := ⟨some 78, .move (.tmp 19), 30, "law.go:111", #[], none⟩) (v := ?_) ?_ ?_
   rotate_left
   ·intro W hW; go_simp <;> with_reducible rfl
   try simp only [Act.put, putA, putB, putC]
   refine wpG_t (i := 2) (oi := ⟨some 79, .binOp .neq 30 (.tmp 77) (.tmp 78) 30, 4, "law.go:111", #[⟨0, .data⟩, ⟨1, .data⟩], none⟩) (v := ?_) ?_ ?_
   rotate_left
   ·intro W hW; go_simp <;> with_reducible rfl
   try simp only [Act.put, putA, putB, putC]
   refine wpG_t (i := 3) (oi := ⟨some 80, .move (.tmp 79), 4, "law.go:111", #[⟨2, .data⟩], none⟩) (v := ?_) ?_ ?_
   rotate_left
   ·intro W hW; go_simp <;> with_reducible rfl
   try simp only [Act.put, putA, putB, putC]
   refine wpG_t (i := 4) (oi := ⟨some 81, .move (.tmp 15), 22, "law.go:111", #[⟨3, .guard⟩], some (3, false)⟩) (v := ?_) ?_ ?_
   rotate_left
   ·intro W hW; go_simp <;> with_reducible rfl
   try simp only [Act.put, putA, putB, putC]
   refine wpG_t (i := 5) (oi := ⟨some 82, .convert 22 9 (.tmp 81), 9, "law.go:111", #[⟨4, .data⟩, ⟨3, .guard⟩], some (3, false)⟩) (v := ?_) ?_ ?_
   rotate_left
   ·intro W hW; have hcv := convS (HX9.out.drew.kept hW); go_simp <;> with_reducible rfl
   try simp only [Act.put, putA, putB, putC]
   refine wpG_t (i := 6) (oi := ⟨some 83, .move (.tmp 18), 22, "law.go:111", #[⟨3, .guard⟩], some (3, false)⟩) (v := ?_) ?_ ?_
   rotate_left
   ·intro W hW; go_simp <;> with_reducible rfl
   try simp only [Act.put, putA, putB, putC]
   refine wpG_t (i := 7) (oi := ⟨some 84, .convert 22 9 (.tmp 83), 9, "law.go:111", #[⟨6, .data⟩, ⟨3, .guard⟩], some (3, false)⟩) (v := ?_) ?_ ?_
   rotate_left
   ·intro W hW; have hcv := convS (HY9.out.drew.kept hW); go_simp <;> with_reducible rfl
   try simp only [Act.put, putA, putB, putC]
   refine wpG_t (i := 8) (oi := ⟨some 85, .binOp .neq 9 (.tmp 82) (.tmp 84) 9, 4, "law.go:111", #[⟨5, .data⟩, ⟨7, .data⟩, ⟨3, .guard⟩], some (3, false)⟩) (v := ?_) ?_ ?_
   rotate_left
   ·intro W hW; go_simp <;> with_reducible rfl
   try simp only [Act.put, putA, putB, putC]
   refine wpG_t (i := 9) (oi := ⟨some 86, .pick (.tmp 80) (.const (.bool true)) (.tmp 85), 4, "law.go:111", #[⟨3, .data⟩, ⟨8, .data⟩], none⟩) (v := ?_) ?_ ?_
   rotate_left
   ·intro W hW; go_simp <;> with_reducible rfl
   try simp only [Act.put, putA, putB, putC]
   refine wpG_t (i := 10) (oi := ⟨some 87, .move (.tmp 86), 4, "law.go:111", #[⟨9, .data⟩, ⟨3, .chain⟩], none⟩) (v := ?_) ?_ ?_
   rotate_left
   ·intro W hW; go_simp <;> with_reducible rfl
   try simp only [Act.put, putA, putB, putC]
   refine wpG_t (i := 11) (oi := ⟨some 88, .move (.tmp 19), 30, "law.go:111", #[⟨10, .guard⟩], some (10, false)⟩) (v := ?_) ?_ ?_
   rotate_left
   ·intro W hW; go_simp <;> with_reducible rfl
   try simp only [Act.put, putA, putB, putC]
   refine wpG_t (i := 12) (oi := ⟨some 89, .binOp .eql 30 (.tmp 88) (.const (.int .i64 0)) 30, 4, "law.go:111", #[⟨11, .data⟩, ⟨10, .guard⟩], some (10, false)⟩) (v := ?_) ?_ ?_
   rotate_left
   ·intro W hW; go_simp <;> with_reducible rfl
   try simp only [Act.put, putA, putB, putC]
   refine wpG_t (i := 13) (oi := ⟨some 90, .move (.tmp 89), 4, "law.go:111", #[⟨12, .data⟩, ⟨10, .chain⟩, ⟨10, .guard⟩], some (10, false)⟩) (v := ?_) ?_ ?_
   rotate_left
   ·intro W hW; go_simp <;> with_reducible rfl
   try simp only [Act.put, putA, putB, putC]
   refine wpG_t (i := 14) (oi := ⟨some 91, .move (.tmp 13), 25, "law.go:111", #[⟨13, .guard⟩], some (13, true)⟩) (v := ?_) ?_ ?_
   rotate_left
   ·intro W hW; go_simp <;> with_reducible rfl
   try simp only [Act.put, putA, putB, putC]
   refine wpG_t (i := 15) (oi := ⟨some 92, .nilCheck (.tmp 91), 0, "law.go:111", #[⟨14, .data⟩, ⟨13, .guard⟩], some (13, true)⟩) (v := ?_) ?_ ?_
   rotate_left
   ·intro W hW; go_simp <;> with_reducible rfl
   try simp only [Act.put, putA, putB, putC]
   refine wpG_t (i := 16) (oi := ⟨some 93, .fieldAddr 27 (.tmp 92) 1, 0, "law.go:111", #[⟨15, .data⟩, ⟨13, .guard⟩], some (13, true)⟩) (v := ?_) ?_ ?_
   rotate_left
   ·intro W hW; go_simp <;> with_reducible rfl
   try simp only [Act.put, putA, putB, putC]
   refine wpG_t (i := 17) (oi := ⟨some 94, .load 23 (.tmp 93), 23, "law.go:111", #[⟨16, .data⟩, ⟨13, .guard⟩], some (13, true)⟩) (v := ?_) ?_ ?_
   rotate_left
   ·intro W hW; have hcW := cellS n1 hW; go_simp <;> with_reducible rfl
   try simp only [Act.put, putA, putB, putC]
   refine wpG_t (i := 18) (oi := ⟨some 95, .fieldAddr 28 (.tmp 17) 1, 0, "law.go:111", #[⟨13, .guard⟩], some (13, true)⟩) (v := ?_) ?_ ?_
   rotate_left
   ·intro W hW; go_simp <;> with_reducible rfl
   try simp only [Act.put, putA, putB, putC]
   refine wpG_t (i := 19) (oi := ⟨some 96, .load 23 (.tmp 95), 23, "law.go:111", #[⟨18, .data⟩, ⟨13, .guard⟩], some (13, true)⟩) (v := ?_) ?_ ?_
   rotate_left
   ·intro W hW; have hcW := cellS n3 hW; go_simp <;> with_reducible rfl
   try simp only [Act.put, putA, putB, putC]
   refine wpG_t (i := 20) (oi := ⟨some 97, .binOp .neq 23 (.tmp 94) (.tmp 96) 23, 4, "law.go:111", #[⟨17, .data⟩, ⟨19, .data⟩, ⟨13, .guard⟩], some (13, true)⟩) (v := ?_) ?_ ?_
   rotate_left
   ·intro W hW; go_simp <;> with_reducible rfl
   try simp only [Act.put, putA, putB, putC]
   refine wpG_t (i := 21) (oi := ⟨some 98, .move (.tmp 97), 4, "law.go:111", #[⟨20, .data⟩, ⟨13, .chain⟩, ⟨13, .guard⟩], some (13, true)⟩) (v := ?_) ?_ ?_
   rotate_left
   ·intro W hW; go_simp <;> with_reducible rfl
   try simp only [Act.put, putA, putB, putC]
   refine wpG_t (i := 22) (oi := ⟨some 99, .move (.tmp 13), 25, "law.go:111", #[⟨21, .guard⟩], some (21, false)⟩) (v := ?_) ?_ ?_
   rotate_left
   ·intro W hW; go_simp <;> with_reducible rfl
   try simp only [Act.put, putA, putB, putC]
   refine wpG_t (i := 23) (oi := ⟨some 100, .nilCheck (.tmp 99), 0, "law.go:111", #[⟨22, .data⟩, ⟨21, .guard⟩], some (21, false)⟩) (v := ?_) ?_ ?_
   rotate_left
   ·intro W hW; go_simp <;> with_reducible rfl
   try simp only [Act.put, putA, putB, putC]
   refine wpG_t (i := 24) (oi := ⟨some 101, .fieldAddr 27 (.tmp 100) 0, 0, "law.go:111", #[⟨23, .data⟩, ⟨21, .guard⟩], some (21, false)⟩) (v := ?_) ?_ ?_
   rotate_left
   ·intro W hW; go_simp <;> with_reducible rfl
   try simp only [Act.put, putA, putB, putC]
   refine wpG_t (i := 25) (oi := ⟨some 102, .load 22 (.tmp 101), 22, "law.go:111", #[⟨24, .data⟩, ⟨21, .guard⟩], some (21, false)⟩) (v := ?_) ?_ ?_
   rotate_left
   ·intro W hW; have hcW := cellS n0 hW; go_simp <;> with_reducible rfl
   try simp only [Act.put, putA, putB, putC]
   refine wpG_t (i := 26) (oi := ⟨some 103, .convert 22 9 (.tmp 102), 9, "law.go:111", #[⟨25, .data⟩, ⟨21, .guard⟩], some (21, false)⟩) (v := ?_) ?_ ?_
   rotate_left
   ·intro W hW; have hcv := convS (HKx9.out.drew.kept hW); go_simp <;> with_reducible rfl
   try simp only [Act.put, putA, putB, putC]
   refine wpG_t (i := 27) (oi := ⟨some 104, .fieldAddr 28 (.tmp 17) 0, 0, "law.go:111", #[⟨21, .guard⟩], some (21, false)⟩) (v := ?_) ?_ ?_
   rotate_left
   ·intro W hW; go_simp <;> with_reducible rfl
   try simp only [Act.put, putA, putB, putC]
   refine wpG_t (i := 28) (oi := ⟨some 105, .load 22 (.tmp 104), 22, "law.go:111", #[⟨27, .data⟩, ⟨21, .guard⟩], some (21, false)⟩) (v := ?_) ?_ ?_
   rotate_left
   ·intro W hW; have hcW := cellS n2 hW; go_simp <;> with_reducible rfl
   try simp only [Act.put, putA, putB, putC]
   refine wpG_t (i := 29) (oi := ⟨some 106, .convert 22 9 (.tmp 105), 9, "law.go:111", #[⟨28, .data⟩, ⟨21, .guard⟩], some (21, false)⟩) (v := ?_) ?_ ?_
   rotate_left
   ·intro W hW; have hcv := convS (HKv9.out.drew.kept hW); go_simp <;> with_reducible rfl
   try simp only [Act.put, putA, putB, putC]
   refine wpG_t (i := 30) (oi := ⟨some 107, .binOp .neq 9 (.tmp 103) (.tmp 106) 9, 4, "law.go:111", #[⟨26, .data⟩, ⟨29, .data⟩, ⟨21, .guard⟩], some (21, false)⟩) (v := ?_) ?_ ?_
   rotate_left
   ·intro W hW; go_simp <;> with_reducible rfl
   try simp only [Act.put, putA, putB, putC]
   refine wpG_t (i := 31) (oi := ⟨some 108, .pick (.tmp 98) (.const (.bool true)) (.tmp 107), 4, "law.go:111", #[⟨21, .data⟩, ⟨30, .data⟩, ⟨13, .guard⟩], some (13, true)⟩) (v := ?_) ?_ ?_
   rotate_left
   ·intro W hW; go_simp <;> with_reducible rfl
   try simp only [Act.put, putA, putB, putC]
   refine wpG_t (i := 32) (oi := ⟨some 109, .pick (.tmp 90) (.tmp 108) (.const (.bool false)), 4, "law.go:111", #[⟨13, .data⟩, ⟨31, .data⟩, ⟨10, .guard⟩], some (10, false)⟩) (v := ?_) ?_ ?_
   rotate_left
   ·intro W hW; go_simp <;> with_reducible rfl
   try simp only [Act.put, putA, putB, putC]
   refine wpG_t (i := 33) (oi := ⟨some 110, .pick (.tmp 87) (.const (.bool true)) (.tmp 109), 4, "law.go:111", #[⟨10, .data⟩, ⟨32, .data⟩], none⟩) (v := ?_) ?_ ?_
   rotate_left
   ·intro W hW; go_simp <;> with_reducible rfl
   try simp only [Act.put, putA, putB, putC]
   refine wpG_t (i := 34) (oi := ⟨some 111, .move (.tmp 110), 4, "law.go:111", #[⟨33, .data⟩, ⟨21, .chain⟩], none⟩) (v := ?_) ?_ ?_
   rotate_left
   ·intro W hW; go_simp <;> with_reducible rfl
   try simp only [Act.put, putA, putB, putC]
   refine wpG_t (i := 35) (oi := ⟨some 112, .move (.tmp 19), 30, "law.go:111", #[⟨34, .guard⟩], some (34, false)⟩) (v := ?_) ?_ ?_
   rotate_left
   ·intro W hW; go_simp <;> with_reducible rfl
   try simp only [Act.put, putA, putB, putC]
   refine wpG_t (i := 36) (oi := ⟨some 113, .binOp .neq 30 (.tmp 112) (.const (.int .i64 0)) 30, 4, "law.go:111", #[⟨35, .data⟩, ⟨34, .guard⟩], some (34, false)⟩) (v := ?_) ?_ ?_
   rotate_left
   ·intro W hW; go_simp <;> with_reducible rfl
   try simp only [Act.put, putA, putB, putC]
   refine wpG_t (i := 37) (oi := ⟨some 114, .move (.tmp 113), 4, "law.go:111", #[⟨36, .data⟩, ⟨34, .chain⟩, ⟨34, .guard⟩], some (34, false)⟩) (v := ?_) ?_ ?_
   rotate_left
   ·intro W hW; go_simp <;> with_reducible rfl
   try simp only [Act.put, putA, putB, putC]
   refine wpG_skip (i := 38) (oi := ⟨some 115, .move (.tmp 13), 25, "law.go:111", #[⟨37, .guard⟩], some (37, true)⟩) rfl (by kernel_rfl) (by kernel_rfl) (by kernel_rfl) (by rfl) ?_
   try simp only [Act.put, putA, putB, putC]
   refine wpG_skip (i := 39) (oi := ⟨some 116, .nilCheck (.tmp 115), 0, "law.go:111", #[⟨38, .data⟩, ⟨37, .guard⟩], some (37, true)⟩) rfl (by kernel_rfl) (by kernel_rfl) (by kernel_rfl) (by rfl) ?_
   try simp only [Act.put, putA, putB, putC]
   refine wpG_skip (i := 40) (oi := ⟨some 117, .fieldAddr 27 (.tmp 116) 1, 0, "law.go:111", #[⟨39, .data⟩, ⟨37, .guard⟩], some (37, true)⟩) rfl (by kernel_rfl) (by kernel_rfl) (by kernel_rfl) (by rfl) ?_
   try simp only [Act.put, putA, putB, putC]
   refine wpG_skip (i := 41) (oi := ⟨some 118, .load 23 (.tmp 117), 23, "law.go:111", #[⟨40, .data⟩, ⟨37, .guard⟩], some (37, true)⟩) rfl (by kernel_rfl) (by kernel_rfl) (by kernel_rfl) (by rfl) ?_
   try simp only [Act.put, putA, putB, putC]
   refine wpG_skip (i := 42) (oi := ⟨some 119, .move (.tmp 1), 23, "law.go:111", #[⟨37, .guard⟩], some (37, true)⟩) rfl (by kernel_rfl) (by kernel_rfl) (by kernel_rfl) (by rfl) ?_
   try simp only [Act.put, putA, putB, putC]
   refine wpG_skip (i := 43) (oi := ⟨some 120, .binOp .neq 23 (.tmp 118) (.tmp 119) 23, 4, "law.go:111", #[⟨41, .data⟩, ⟨42, .data⟩, ⟨37, .guard⟩], some (37, true)⟩) rfl (by kernel_rfl) (by kernel_rfl) (by kernel_rfl) (by rfl) ?_
   try simp only [Act.put, putA, putB, putC]
   refine wpG_t (i := 44) (oi := ⟨some 121, .pick (.tmp 114) (.tmp 120) (.const (.bool false)), 4, "law.go:111", #[⟨37, .data⟩, ⟨43, .data⟩, ⟨34, .guard⟩], some (34, false)⟩) (v := ?_) ?_ ?_
   rotate_left
   ·intro W hW; go_simp <;> with_reducible rfl
   try simp only [Act.put, putA, putB, putC]
   refine wpG_t (i := 45) (oi := ⟨some 122, .pick (.tmp 111) (.const (.bool true)) (.tmp 121), 4, "law.go:111", #[⟨34, .data⟩, ⟨44, .data⟩], none⟩) (v := ?_) ?_ ?_
   rotate_left
   ·intro W hW; go_simp <;> with_reducible rfl
   try simp only [Act.put, putA, putB, putC]
   refine wpG_done (by kernel_rfl) ?_
   clear HE
  rotate_left
  focus
   have e1 : (E == 0) = false := by simpa using hE
   have e2 : (E != 0) = true := by simpa using hE
   have hmn : m = n := HEm.out hE
   have n4 : w9.cell? ⟨w2.heap.size, 1, none⟩ = some (.int .u64 (n : Int)) := by rw [← hmn]; exact n1
   clear hE hmn n1
   refine wpG_begin (by kernel_rfl) ?_
   refine wpG_t (i := 0) (oi := ⟨some 77, .move (.tmp 16), 30, "law.go:111", #[], none⟩) (v := ?_) ?_ ?_
   rotate_left
   ·intro W hW; go_simp <;> with_reducible rfl
   try simp only [Act.put, putA, putB, putC]
   refine wpG_t (i := 1) (oi := ⟨some 78, .move (.tmp 19), 30, "law.go:111", #[], none⟩) (v := ?_) ?_ ?_
   rotate_left
   ·intro W hW; go_simp <;> with_reducible rfl
   try simp only [Act.put, putA, putB, putC]
   refine wpG_t (i := 2) (oi := ⟨some 79, .binOp .neq 30 (.tmp 77) (.tmp 78) 30, 4, "law.go:111", #[⟨0, .data⟩, ⟨1, .data⟩], none⟩) (v := ?_) ?_ ?_
   rotate_left
   ·intro W hW; go_simp <;> with_reducible rfl
   try simp only [Act.put, putA, putB, putC]
   refine wpG_t (i := 3) (oi := ⟨some 80, .move (.tmp 79), 4, "law.go:111", #[⟨2, .data⟩], none⟩) (v := ?_) ?_ ?_
   rotate_left
   ·intro W hW; go_simp <;> with_reducible rfl
   try simp only [Act.put, putA, putB, putC]
   refine wpG_t (i := 4) (oi := ⟨some 81, .move (.tmp 15), 22, "law.go:111", #[⟨3, .guard⟩], some (3, false)⟩) (v := ?_) ?_ ?_
   rotate_left
   ·intro W hW; go_simp <;> with_reducible rfl
   try simp only [Act.put, putA, putB, putC]
   refine wpG_t (i := 5) (oi := ⟨some 82, .convert 22 9 (.tmp 81), 9, "law.go:111", #[⟨4, .data⟩, ⟨3, .guard⟩], some (3, false)⟩) (v := ?_) ?_ ?_
   rotate_left
   ·intro W hW; have hcv := convS (HX9.out.drew.kept hW); go_simp <;> with_reducible rfl
   try simp only [Act.put, putA, putB, putC]
   refine wpG_t (i := 6) (oi := ⟨some 83, .move (.tmp 18), 22, "law.go:111", #[⟨3, .guard⟩], some (3, false)⟩) (v := ?_) ?_ ?_
   rotate_left
   ·intro W hW; go_simp <;> with_reducible rfl
   try simp only [Act.put, putA, putB, putC]
   refine wpG_t (i := 7) (oi := ⟨some 84, .convert 22 9 (.tmp 83), 9, "law.go:111", #[⟨6, .data⟩, ⟨3, .guard⟩], some (3, false)⟩) (v := ?_) ?_ ?_
   rotate_left
   ·intro W hW; have hcv := convS (HY9.out.drew.kept hW); go_simp <;> with_reducible rfl
   try simp only [Act.put, putA, putB, putC]
   refine wpG_t (i := 8) (oi := ⟨some 85, .binOp .neq 9 (.tmp 82) (.tmp 84) 9, 4, "law.go:111", #[⟨5, .data⟩, ⟨7, .data⟩, ⟨3, .guard⟩], some (3, false)⟩) (v := ?_) ?_ ?_
   rotate_left
   ·intro W hW; go_simp <;> with_reducible rfl
   try simp only [Act.put, putA, putB, putC]
   refine wpG_t (i := 9) (oi := ⟨some 86, .pick (.tmp 80) (.const (.bool true)) (.tmp 85), 4, "law.go:111", #[⟨3, .data⟩, ⟨8, .data⟩], none⟩) (v := ?_) ?_ ?_
   rotate_left
   ·intro W hW; go_simp <;> with_reducible rfl
   try simp only [Act.put, putA, putB, putC]
   refine wpG_t (i := 10) (oi := ⟨some 87, .move (.tmp 86), 4, "law.go:111", #[⟨9, .data⟩, ⟨3, .chain⟩], none⟩) (v := ?_) ?_ ?_
   rotate_left
   ·intro W hW; go_simp <;> with_reducible rfl
   try simp only [Act.put, putA, putB, putC]
   refine wpG_t (i := 11) (oi := ⟨some 88, .move (.tmp 19), 30, "law.go:111", #[⟨10, .guard⟩], some (10, false)⟩) (v := ?_) ?_ ?_
   rotate_left
   ·intro W hW; go_simp <;> with_reducible rfl
   try simp only [Act.put, putA, putB, putC]
   refine wpG_t (i := 12) (oi := ⟨some 89, .binOp .eql 30 (.tmp 88) (.const (.int .i64 0)) 30, 4, "law.go:111", #[⟨11, .data⟩, ⟨10, .guard⟩], some (10, false)⟩) (v := ?_) ?_ ?_
   rotate_left
   ·intro W hW; go_simp <;> with_reducible rfl
   try simp only [Act.put, putA, putB, putC]
   refine wpG_t (i := 13) (oi := ⟨some 90, .move (.tmp 89), 4, "law.go:111", #[⟨12, .data⟩, ⟨10, .chain⟩, ⟨10, .guard⟩], some (10, false)⟩) (v := ?_) ?_ ?_
   rotate_left
   ·intro W hW; go_simp <;> with_reducible rfl
   try simp only [Act.put, putA, putB, putC]
   refine wpG_skip (i := 14) (oi := ⟨some 91, .move (.tmp 13), 25, "law.go:111", #[⟨13, .guard⟩], some (13, true)⟩) rfl (by kernel_rfl) (by kernel_rfl) (by kernel_rfl) (by rfl) ?_
   try simp only [Act.put, putA, putB, putC]
   refine wpG_skip (i := 15) (oi := ⟨some 92, .nilCheck (.tmp 91), 0, "law.go:111", #[⟨14, .data⟩, ⟨13, .guard⟩], some (13, true)⟩) rfl (by kernel_rfl) (by kernel_rfl) (by kernel_rfl) (by rfl) ?_
   try simp only [Act.put, putA, putB, putC]
   refine wpG_skip (i := 16) (oi := ⟨some 93, .fieldAddr 27 (.tmp 92) 1, 0, "law.go:111", #[⟨15, .data⟩, ⟨13, .guard⟩], some (13, true)⟩) rfl (by kernel_rfl) (by kernel_rfl) (by kernel_rfl) (by rfl) ?_
   try simp only [Act.put, putA, putB, putC]
   refine wpG_skip (i := 17) (oi := ⟨some 94, .load 23 (.tmp 93), 23, "law.go:111", #[⟨16, .data⟩, ⟨13, .guard⟩], some (13, true)⟩) rfl (by kernel_rfl) (by kernel_rfl) (by kernel_rfl) (by rfl) ?_
   try simp only [Act.put, putA, putB, putC]
   refine wpG_skip (i := 18) (oi := ⟨some 95, .fieldAddr 28 (.tmp 17) 1, 0, "law.go:111", #[⟨13, .guard⟩], some (13, true)⟩) rfl (by kernel_rfl) (by kernel_rfl) (by kernel_rfl) (by rfl) ?_
   try simp only [Act.put, putA, putB, putC]
   refine wpG_skip (i := 19) (oi := ⟨some 96, .load 23 (.tmp 95), 23, "law.go:111", #[⟨18, .data⟩, ⟨13, .guard⟩], some (13, true)⟩) rfl (by kernel_rfl) (by kernel_rfl) (by kernel_rfl) (by rfl) ?_
   try simp only [Act.put, putA, putB, putC]
   refine wpG_skip (i := 20) (oi := ⟨some 97, .binOp .neq 23 (.tmp 94) (.tmp 96) 23, 4, "law.go:111", #[⟨17, .data⟩, ⟨19, .data⟩, ⟨13, .guard⟩], some (13, true)⟩) rfl (by kernel_rfl) (by kernel_rfl) (by kernel_rfl) (by rfl) ?_
   try simp only [Act.put, putA, putB, putC]
   refine wpG_skip (i := 21) (oi := ⟨some 98, .move (.tmp 97), 4, "law.go:111", #[⟨20, .data⟩, ⟨13, .chain⟩, ⟨13, .guard⟩], some (13, true)⟩) rfl (by kernel_rfl) (by kernel_rfl) (by kernel_rfl) (by rfl) ?_
   try simp only [Act.put, putA, putB, putC]
   refine wpG_skip (i := 22) (oi := ⟨some 99, .move (.tmp 13), 25, "law.go:111", #[⟨21, .guard⟩], some (21, false)⟩) rfl (by kernel_rfl) (by kernel_rfl) (by kernel_rfl) (by rfl) ?_
   try simp only [Act.put, putA, putB, putC]
   refine wpG_skip (i := 23) (oi := ⟨some 100, .nilCheck (.tmp 99), 0, "law.go:111", #[⟨22, .data⟩, ⟨21, .guard⟩], some (21, false)⟩) rfl (by kernel_rfl) (by kernel_rfl) (by kernel_rfl) (by rfl) ?_
   try simp only [Act.put, putA, putB, putC]
   refine wpG_skip (i := 24) (oi := ⟨some 101, .fieldAddr 27 (.tmp 100) 0, 0, "law.go:111", #[⟨23, .data⟩, ⟨21, .guard⟩], some (21, false)⟩) rfl (by kernel_rfl) (by kernel_rfl) (by kernel_rfl) (by rfl) ?_
   try simp only [Act.put, putA, putB, putC]
   refine wpG_skip (i := 25) (oi := ⟨some 102, .load 22 (.tmp 101), 22, "law.go:111", #[⟨24, .data⟩, ⟨21, .guard⟩], some (21, false)⟩) rfl (by kernel_rfl) (by kernel_rfl) (by kernel_rfl) (by rfl) ?_
   try simp only [Act.put, putA, putB, putC]
   refine wpG_skip (i := 26) (oi := ⟨some 103, .convert 22 9 (.tmp 102), 9, "law.go:111", #[⟨25, .data⟩, ⟨21, .guard⟩], some (21, false)⟩) rfl (by kernel_rfl) (by kernel_rfl) (by kernel_rfl) (by rfl) ?_
   try simp only [Act.put, putA, putB, putC]
   refine wpG_skip (i := 27) (oi := ⟨some 104, .fieldAddr 28 (.tmp 17) 0, 0, "law.go:111", #[⟨21, .guard⟩], some (21, false)⟩) rfl (by kernel_rfl) (by kernel_rfl) (by kernel_rfl) (by rfl) ?_
   try simp only [Act.put, putA, putB, putC]
   refine wpG_skip (i := 28) (oi := ⟨some 105, .load 22 (.tmp 104), 22, "law.go:111", #[⟨27, .data⟩, ⟨21, .guard⟩], some (21, false)⟩) rfl (by kernel_rfl) (by kernel_rfl) (by kernel_rfl) (by rfl) ?_
   try simp only [Act.put, putA, putB, putC]
   refine wpG_skip (i := 29) (oi := ⟨some 106, .convert 22 9 (.tmp 105), 9, "law.go:111", #[⟨28, .data⟩, ⟨21, .guard⟩], some (21, false)⟩) rfl (by kernel_rfl) (by kernel_rfl) (by kernel_rfl) (by rfl) ?_
   try simp only [Act.put, putA, putB, putC]
   refine wpG_skip (i := 30) (oi := ⟨some 107, .binOp .neq 9 (.tmp 103) (.tmp 106) 9, 4, "law.go:111", #[⟨26, .data⟩, ⟨29, .data⟩, ⟨21, .guard⟩], some (21, false)⟩) rfl (by kernel_rfl) (by kernel_rfl) (by kernel_rfl) (by rfl) ?_
   try simp only [Act.put, putA, putB, putC]
   refine wpG_skip (i := 31) (oi := ⟨some 108, .pick (.tmp 98) (.const (.bool true)) (.tmp 107), 4, "law.go:111", #[⟨21, .data⟩, ⟨30, .data⟩, ⟨13, .guard⟩], some (13, true)⟩) rfl (by kernel_rfl) (by kernel_rfl) (by kernel_rfl) (by rfl) ?_
   try simp only [Act.put, putA, putB, putC]
   refine wpG_t (i := 32) (oi := ⟨some 109, .pick (.tmp 90) (.tmp 108) (.const (.bool false)), 4, "law.go:111", #[⟨13, .data⟩, ⟨31, .data⟩, ⟨10, .guard⟩], some (10, false)⟩) (v := ?_) ?_ ?_
   rotate_left
   ·intro W hW; go_simp <;> with_reducible rfl
   try simp only [Act.put, putA, putB, putC]
   refine wpG_t (i := 33) (oi := ⟨some 110, .pick (.tmp 87) (.const (.bool true)) (.tmp 109), 4, "law.go:111", #[⟨10, .data⟩, ⟨32, .data⟩], none⟩) (v := ?_) ?_ ?_
   rotate_left
   ·intro W hW; go_simp <;> with_reducible rfl
   try simp only [Act.put, putA, putB, putC]
   refine wpG_t (i := 34) (oi := ⟨some 111, .move (.tmp 110), 4, "law.go:111", #[⟨33, .data⟩, ⟨21, .chain⟩], none⟩) (v := ?_) ?_ ?_
   rotate_left
   ·intro W hW; go_simp <;> with_reducible rfl
   try simp only [Act.put, putA, putB, putC]
   refine wpG_t (i := 35) (oi := ⟨some 112, .move (.tmp 19), 30, "law.go:111", #[⟨34, .guard⟩], some (34, false)⟩) (v := ?_) ?_ ?_
   rotate_left
   ·intro W hW; go_simp <;> with_reducible rfl
   try simp only [Act.put, putA, putB, putC]
   refine wpG_t (i := 36) (oi := ⟨some 113, .binOp .neq 30 (.tmp 112) (.const (.int .i64 0)) 30, 4, "law.go:111", #[⟨35, .data⟩, ⟨34, .guard⟩], some (34, false)⟩) (v := ?_) ?_ ?_
   rotate_left
   ·intro W hW; go_simp <;> with_reducible rfl
   try simp only [Act.put, putA, putB, putC]
   refine wpG_t (i := 37) (oi := ⟨some 114, .move (.tmp 113), 4, "law.go:111", #[⟨36, .data⟩, ⟨34, .chain⟩, ⟨34, .guard⟩], some (34, false)⟩) (v := ?_) ?_ ?_
   rotate_left
   ·intro W hW; go_simp <;> with_reducible rfl
   try simp only [Act.put, putA, putB, putC]
   refine wpG_t (i := 38) (oi := ⟨some 115, .move (.tmp 13), 25, "law.go:111", #[⟨37, .guard⟩], some (37, true)⟩) (v := ?_) ?_ ?_
   rotate_left
   ·intro W hW; go_simp <;> with_reducible rfl
   try simp only [Act.put, putA, putB, putC]
   refine wpG_t (i := 39) (oi := ⟨some 116, .nilCheck (.tmp 115), 0, "law.go:111", #[⟨38, .data⟩, ⟨37, .guard⟩], some (37, true)⟩) (v := ?_) ?_ ?_
   rotate_left
   ·intro W hW; go_simp <;> with_reducible rfl
   try simp only [Act.put, putA, putB, putC]
   refine wpG_t (i := 40) (oi := ⟨some 117, .fieldAddr 27 (.tmp 116) 1, 0, "law.go:111", #[⟨39, .data⟩, ⟨37, .guard⟩], some (37, true)⟩) (v := ?_) ?_ ?_
   rotate_left
   ·intro W hW; go_simp <;> with_reducible rfl
   try simp only [Act.put, putA, putB, putC]
   refine wpG_t (i := 41) (oi := ⟨some 118, .load 23 (.tmp 117), 23, "law.go:111", #[⟨40, .data⟩, ⟨37, .guard⟩], some (37, true)⟩) (v := ?_) ?_ ?_
   rotate_left
   ·intro W hW; have hcW := cellS n4 hW; go_simp <;> with_reducible rfl
   try simp only [Act.put, putA, putB, putC]
   refine wpG_t (i := 42) (oi := ⟨some 119, .move (.tmp 1), 23, "law.go:111", #[⟨37, .guard⟩], some (37, true)⟩) (v := ?_) ?_ ?_
   rotate_left
   ·intro W hW; go_simp <;> with_reducible rfl
   try simp only [Act.put, putA, putB, putC]
   refine wpG_t (i := 43) (oi := ⟨some 120, .binOp .neq 23 (.tmp 118) (.tmp 119) 23, 4, "law.go:111", #[⟨41, .data⟩, ⟨42, .data⟩, ⟨37, .guard⟩], some (37, true)⟩) (v := ?_) ?_ ?_
   rotate_left
   ·intro W hW; go_simp <;> with_reducible rfl
   try simp only [Act.put, putA, putB, putC]
   refine wpG_t (i := 44) (oi := ⟨some 121, .pick (.tmp 114) (.tmp 120) (.const (.bool false)), 4, "law.go:111", #[⟨37, .data⟩, ⟨43, .data⟩, ⟨34, .guard⟩], some (34, false)⟩) (v := ?_) ?_ ?_
   rotate_left
   ·intro W hW; go_simp <;> with_reducible rfl
   try simp only [Act.put, putA, putB, putC]
   refine wpG_t (i := 45) (oi := ⟨some 122, .pick (.tmp 111) (.const (.bool true)) (.tmp 121), 4, "law.go:111", #[⟨34, .data⟩, ⟨44, .data⟩], none⟩) (v := ?_) ?_ ?_
   rotate_left
   ·intro W hW; go_simp <;> with_reducible rfl
   try simp only [Act.put, putA, putB, putC]
   refine wpG_done (by kernel_rfl) ?_
  all_goals
   have HB10 : Hid (Below w.heap.size w w9.drew) := HB9.out.drew
   have HRV10 : Hid (BlkAt w3.heap.size 28 (ciC (.slice avk kq.length cvk) n) w9.drew) := BlkAt.drew HRV9.out
   have m0 : w9.drew.cell? ⟨w3.heap.size, 0, none⟩ = some (.slice avk kq.length cvk) := BlkAt.cell HRV10.out 0
   have m1 : w9.drew.cell? ⟨w3.heap.size, 1, none⟩ = some (.int .u64 (n : Int)) := BlkAt.cell HRV10.out 1
   have HKv10 : Hid (Rd w9.drew (.slice avk kq.length cvk) kq) := HKv9.out.drew
   have HX10 : Hid (Rd w9.drew (.slice axx X.length cxx) X) := HX9.out.drew
   have HY10 : Hid (Rd w9.drew (.slice ay X.length cy) X) := HY9.out.drew
   clear n0 n2 n3 HRC9 HKx9 HRV9 HKv9 HX9 HY9 HB9 HEm
   generalize w9.drew = w9 at HB10 HRV10 m0 m1 HKv10 HX10 HY10 ⊢
   go_wp2_with (first | refine wpList_buildB rfl 27 #[(0, .tmp 124), (1, .tmp 126)] rfl #[(0, .slice avk kq.length cvk), (1, .int .u64 (n : Int))] (by go_simp) (.agg #[.slice avk kq.length cvk, .int .u64 (n : Int)]) (build_kd _ _ _ _ _) ?_ | (refine wpList_box_blk rfl 27 _ rfl (ckD (.slice avk kq.length cvk) n) rfl ?_; intro wd rd bd sd))
   have HBd : Hid (Below w.heap.size w wd) := stepB HB10.out bd
   have HRd : Hid (BlkAt w9.heap.size 27 (ckD (.slice avk kq.length cvk) n) wd) := rd
   have HRVd : Hid (BlkAt w3.heap.size 28 (ciC (.slice avk kq.length cvk) n) wd) := BlkAt.kept HRV10.out bd
   have HKvd : Hid (Rd wd (.slice avk kq.length cvk) kq) := HKv10.out.kept bd
   have HXd : Hid (Rd wd (.slice axx X.length cxx) X) := HX10.out.kept bd
   have HYd : Hid (Rd wd (.slice ay X.length cy) X) := HY10.out.kept bd
   have HGd : Hid (w.heap.size ≤ w9.heap.size) := HB10.out.size
   have HGd3 : Hid (w3.heap.size < w9.heap.size) := (BlkAt.lt HRV10.out : w3.heap.size < w9.heap.size)
   clear HB10 HRV10 HKv10 HX10 HY10 m0 m1 rd bd sd
   have hfac := opC_facts ⟨kq, n⟩ ad X HN.out
   obtain ⟨Q, hQ⟩ : ∃ Q, Q = opC ⟨kq, n⟩ ad X := ⟨_, rfl⟩
   rw [← hQ] at hfac
   obtain ⟨⟨kz, m2⟩, Z, G⟩ := Q
   obtain ⟨hkz, hm2, -⟩ := hfac
   replace hkz : kz = kq := hkz
   replace hm2 : m2 < 18446744073709551616 := hm2
   subst hkz
   have HQ1 : Hid (((⟨kz, m2⟩ : Cph), Z, G) = opC ⟨kz, n⟩ ad X) := hQ
   have HM2 : Hid (m2 < 18446744073709551616) := hm2
   clear hQ hm2
   obtain ⟨Q, hQ⟩ : ∃ Q, Q = opC ⟨kz, m2⟩ ad b := ⟨_, rfl⟩
   obtain ⟨⟨kr, m3⟩, R, H⟩ := Q
   have HQ2 : Hid (((⟨kr, m3⟩ : Cph), R, H) = opC ⟨kz, m2⟩ ad b) := hQ
   clear hQ
   refine (copen_any ⟨kz, n⟩ HN.out ad X (by have := HLs.out; omega) (by have := HLs.out; have := HXl.out; omega) w9.heap.size 0 27 ne_cipher [] [] rfl avk cvk _ _ _ HRd.out HKvd.out (HA.out.kept HBd.out) HXd.out (HP.out.kept HBd.out) (HKp.out.kept HBd.out)).mono ?_
   rw [← HQ1.out]
   rintro e we ⟨z, rfl, hz, ce, hBe⟩
   replace hz : Ow 5 wd.heap.size z Z we := hz
   have HRe : Hid (BlkAt w9.heap.size 27 (ckD (.slice avk kz.length cvk) m2) we) := hBe
   have HRVe : Hid (BlkAt w3.heap.size 28 (ciC (.slice avk kz.length cvk) n) we) := BlkAt.chg HRVd.out ce (by have := HGd3.out; omega)
   have HKve : Hid (Rd we (.slice avk kz.length cvk) kz) := Rd.past16 HKvd.out HRd.out (ckD_no8 _ _ _ _) ce
   have HYe : Hid (Rd we (.slice ay X.length cy) X) := Rd.past16 HYd.out HRd.out (ckD_no8 _ _ _ _) ce
   have HBe : Hid (Below w.heap.size w we) := Chg.gone HBd.out ce HBd.out.size HGd.out
   obtain ⟨az, cz, rfl, -⟩ := id hz.rd
   have HZe : Hid (Rd we (.slice az Z.length cz) Z) := hz.rd
   clear hz ce hBe HRd HRVd HKvd HYd HXd HBd
   go_wp2_with fail
   refine (copen_any ⟨kz, m2⟩ HM2.out ad b (by have := HLs.out; omega) (by have := HLs.out; omega) w9.heap.size 0 27 ne_cipher [] [] rfl avk cvk _ _ _ HRe.out HKve.out (HA.out.kept HBe.out) (HBb.out.kept HBe.out) (HP.out.kept HBe.out) (HKp.out.kept HBe.out)).mono ?_
   rw [← HQ2.out]
   rintro e wf ⟨r, rfl, hr, cf, -⟩
   replace hr : Ow 5 we.heap.size r R wf := hr
   have HRVf : Hid (BlkAt w3.heap.size 28 (ciC (.slice avk kz.length cvk) n) wf) := BlkAt.chg HRVe.out cf (by have := HGd3.out; omega)
   have HKvf : Hid (Rd wf (.slice avk kz.length cvk) kz) := Rd.past16 HKve.out HRe.out (ckD_no8 _ _ _ _) cf
   have HYf : Hid (Rd wf (.slice ay X.length cy) X) := Rd.past16 HYe.out HRe.out (ckD_no8 _ _ _ _) cf
   have HZf : Hid (Rd wf (.slice az Z.length cz) Z) := Rd.past16 HZe.out HRe.out (ckD_no8 _ _ _ _) cf
   have HBf : Hid (Below w.heap.size w wf) := Chg.gone HBe.out cf HBe.out.size HGd.out
   obtain ⟨ar, cr, rfl, -⟩ := id hr.rd
   have HRf : Hid (Rd wf (.slice ar R.length cr) R) := hr.rd
   clear hr cf HRe HRVe HKve HYe HZe HBe
   go_wp2_with (refine wpList_load_part rfl 28 _ rfl rfl [] (ciC (.slice avk kz.length cvk) n) [] HRVf.out (whole16 _) rfl Tryd.underlying28 rfl (info_ci _ _) ?_)
   go_wp2_with fail
   refine (open16_any ⟨kz, n⟩ _ _ _ ad X _ rfl HN.out (by have := HLs.out; omega) (by have := HLs.out; have := HXl.out; omega) _ HKvf.out (HA.out.kept HBf.out) HYf.out).mono ?_
   rw [← HQ1.out]
   rintro e wg ⟨s, rfl, hs, bg⟩
   replace hs : Rd wg s Z := hs
   obtain ⟨as', cs, rfl, -⟩ := id hs
   go_wp2_with (first | (refine wpList_alloc_blk rfl 28 rfl (ciC (.slice none 0 0) 0) (alloc_ci _) ?_; intro wa ra ba sa) | (refine wpList_store_part rfl 28 _ _ rfl rfl (ciC (.slice avk kz.length cvk) m2) rfl [] (ciC (.slice none 0 0) 0) [] (ciC (.slice avk kz.length cvk) m2) ra (whole16 _) (whole16 _) rfl rfl (info_ci (.slice none 0 0) 0) (ciC_all _ _ _ _) ?_; intro wh rh hwh) | refine wpList_load_part rfl 28 _ rfl rfl [] (ciC (.slice avk kz.length cvk) m2) [] rh (whole16 _) rfl Tryd.underlying28 rfl (info_ci _ _) ?_)
   have bh : Below wg.heap.size wg wh := hwh.below _ _ (Nat.le_refl _) ba
   have bfh := stepB bg bh
   have HBh : Hid (Below w.heap.size w wh) := stepB HBf.out bfh
   have HKvh : Hid (Rd wh (.slice avk kz.length cvk) kz) := HKvf.out.kept bfh
   have HZh : Hid (Rd wh (.slice az Z.length cz) Z) := HZf.out.kept bfh
   have HRh : Hid (Rd wh (.slice ar R.length cr) R) := HRf.out.kept bfh
   have HSh : Hid (Rd wh (.slice as' Z.length cs) Z) := hs.kept bh
   clear hs bg bh bfh ra ba sa rh hwh HKvf HZf HRf HYf HBf HRVf
   refine (open16_any ⟨kz, m2⟩ _ _ _ ad b _ rfl HM2.out (by have := HLs.out; omega) (by have := HLs.out; omega) _ HKvh.out (HA.out.kept HBh.out) (HBb.out.kept HBh.out)).mono ?_
   rw [← HQ2.out]
   rintro e wi ⟨t, rfl, ht, bi⟩
   replace ht : Rd wi t R := ht
   obtain ⟨at', ct, rfl, -⟩ := id ht
   go_wp2_with (first | (refine wpList_alloc_blk rfl 28 rfl (ciC (.slice none 0 0) 0) (alloc_ci _) ?_; intro wa ra ba sa) | (refine wpList_store_part rfl 28 _ _ rfl rfl (ciC (.slice avk kz.length cvk) m3) rfl [] (ciC (.slice none 0 0) 0) [] (ciC (.slice avk kz.length cvk) m3) ra (whole16 _) (whole16 _) rfl rfl (info_ci (.slice none 0 0) 0) (ciC_all _ _ _ _) ?_; intro wj rj hwj; have bj : Below wi.heap.size wi wj := hwj.below _ _ (Nat.le_refl _) ba; have bij := stepB bi bj; have HBj : Hid (Below w.heap.size w wj) := stepB HBh.out bij; have k1 := convS (HZh.out.kept bij); have k2 := convS (HRh.out.kept bij); have k3 := convS (HSh.out.kept bij); have k4 := convS (ht.kept bj); clear hwj rj ra ba sa bj bij))
   go_ret
   exact ⟨by simp, HBj.out⟩
end Go.Proofs.YtdlmmcilembjgaaDoor
