/- What the law KemChecks answers at every input: the walk. -/
import Derived.Test.YtmhbjaampobcbaaGreatDoorXk
import Derived.Test.YtmhbjaampobcbaaGreatDoorBase
namespace Go.Proofs.YtmhbjaampobcbaaGreatDoor
open Go.ChangeShapes Go.WideShapes Go.ChangeAt Go.RowKit
set_option linter.unusedSimpArgs false
set_option linter.unusedVariables false

theorem OwnG.two_rows {w0 w : World} {e : TypeId} {x y : Value} {E D : List UInt8} (h : OwnG w0 [Rw.by e x E, Rw.by e y D] w) (hE : E ≠ []) (hD : D ≠ []) :
  ∃ gx cx gy cy, x = .slice (some ⟨gx, 0, none⟩) E.length cx ∧ y = .slice (some ⟨gy, 0, none⟩) D.length cy ∧ w0.heap.size ≤ gx ∧ w0.heap.size ≤ gy ∧ gx ≠ gy ∧ RowAt .u8 e gx cx (byI E) w ∧ RowAt .u8 e gy cy (byI D) w := by
 have hX : NewI .u8 e w0 x (byI E) w := by
  unfold NewI
  rw [byI_bv, byI_length]
  exact h.toNew
 have hY : NewI .u8 e w0 y (byI D) w := by
  unfold NewI
  rw [byI_bv, byI_length]
  exact h.tail.toNew
 obtain ⟨gx, cx, rfl, hgx, rx⟩ := hX.row (byI_ne hE)
 obtain ⟨gy, cy, rfl, hgy, ry⟩ := hY.row (byI_ne hD)
 have ha := (List.pairwise_cons.1 h.apart).1 _ (List.mem_cons_self ..)
 rw [byI_length, byI_length]
 exact ⟨gx, cx, gy, cy, rfl, rfl, hgx, hgy, fun e => ha gx rfl (by rw [e]; rfl), rx, ry⟩

set_option maxRecDepth 100000 in
set_option maxHeartbeats 8000000 in
theorem checks_walk (vb vt : Value) (b : List UInt8) (Da : Array Value) (d : List UInt8) (hd : d.length = 32) (hDa : Da = ((byI d).map (Value.int .u8)).toArray) (t : List Int) (w : World) (hb : Rd w vb b) (htn : RdI .i64 w vt t) (hT : Tabs w) (hP : PwT w) :
  Calls Tryz.prog 4 #[vb, .agg Da, vt] w fun e w' => e = .returned (.bool true) ∧ Below w.heap.size w w' := by
 obtain ⟨at', ct, rfl, hlct, hmt, -, -⟩ := id htn
 obtain ⟨Lt, hLt⟩ : ∃ Lt : Nat, Lt = t.length := ⟨_, rfl⟩
 rw [← hLt] at htn hlct ⊢
 have HLt : Hid (Lt = t.length) := hLt
 have HB : Hid (Rd w vb b) := hb
 have HDl : Hid (d.length = 32) := hd
 have HTn : Hid (RdI .i64 w (.slice at' Lt ct) t) := htn
 have HT : Hid (Tabs w) := hT
 have HP : Hid (PwT w) := hP
 unfold maxLen at hmt
 clear hb hT hP htn hLt
 go_enter Tryz.func4, Tryz.ntmps4
 go_wp2_with (refine wpList_box_row (k := .u8) rfl 29 _ rfl (byI d) (by rw [← hDa]; rfl) (ne14 hd) (max14 hd) ?_)
 intro w1 rk bn sn
 rw [byI_length, hd] at rk
 have hbw := bn
 clear bn sn hDa hd
 go_wp2_with fail
 refine (awake_any _ (HT.out.kept hbw) (HP.out.kept hbw)).mono ?_
 rintro e wa ⟨rfl, bn⟩
 replace rk := rk.kept bn
 replace hbw := stepB hbw bn
 clear bn
 obtain ⟨C, hC⟩ : ∃ C : Int, C = ckE b := ⟨_, rfl⟩
 obtain ⟨V, hV⟩ : ∃ V : Int, V = cvE b := ⟨_, rfl⟩
 have HC : Hid _ := hC
 have HV : Hid _ := hV
 have e1 : (C != C) = false := by simp
 have e2 : (V != V) = false := by simp
 clear hC hV
 go_wp2_with fail
 refine (mcheck_any _ b _ (Rd.kept HB.out hbw)).mono ?_
 rintro e wb ⟨rfl, bn⟩
 replace rk := rk.kept bn
 replace hbw := stepB hbw bn
 rw [← HC.out]
 clear bn
 go_wp2_with fail
 refine (ckE_any _ b _ (Rd.kept HB.out hbw)).mono ?_
 rintro e wc ⟨rfl, bn⟩
 replace rk := rk.kept bn
 replace hbw := stepB hbw bn
 rw [← HC.out]
 clear bn
 go_wp2_with fail
 refine (mcv_any _ b _ (Rd.kept HB.out hbw) (HT.out.kept hbw)).mono ?_
 rintro e wd ⟨rfl, bn⟩
 replace rk := rk.kept bn
 replace hbw := stepB hbw bn
 rw [← HV.out]
 clear bn
 go_wp2_with fail
 refine (cvE_any _ b _ (Rd.kept HB.out hbw)).mono ?_
 rintro e w2 ⟨rfl, bn⟩
 replace rk := rk.kept bn
 replace hbw := stepB hbw bn
 rw [← HV.out]
 have kk := rk.rdB
 rw [HDl.out] at kk
 have K0 : Hid (Rd w2 (.slice (some ⟨w.heap.size, 0, none⟩) 32 32) d) := kk
 clear bn kk rk
 go_wp2_with fail
 refine wpG_begin (by kernel_rfl) ?_
 refine wpG_t (i := 0) (oi := ⟨some 28, .slice 29 (.tmp 4) none none none, 22, "law.go:52", #[], none⟩) (v := ?_) ?_ ?_
 rotate_left
 ·intro W hW; go_simp <;> with_reducible rfl
 try simp only [Act.put, putA, putB, putC]
 refine wpG_t (i := 1) (oi := ⟨some 29, .slice 29 (.tmp 4) none none none, 22, "law.go:52", #[], none⟩) (v := ?_) ?_ ?_
 rotate_left
 ·intro W hW; go_simp <;> with_reducible rfl
 try simp only [Act.put, putA, putB, putC]
 refine wpG_do (i := 2) (o := ⟨some 30, .call { callee := .value (.func 10), args := #[.tmp 28, .tmp 29], argTypes := #[22, 22] }, 25, "law.go:52", #[⟨0, .data⟩, ⟨1, .data⟩], none⟩) (by kernel_rfl) rfl (by rfl) fun K hK => ?_
 go_simp
 refine (gen14_any _ _ d d _ (Rd.drew K0.out) (Rd.drew K0.out) HDl.out HDl.out).mono ?_
 rintro e w3 ⟨x, y, rfl, hO⟩
 refine hK.out _ _ hO.below ?_
 clear hK K
 try simp only [Act.put, putA, putB, putC]
 refine wpG_t (i := 3) (oi := ⟨some 27, .move (.tmp 30), 25, "law.go:52", #[⟨2, .data⟩], none⟩) (v := ?_) ?_ ?_
 rotate_left
 ·intro W hW; go_simp <;> with_reducible rfl
 try simp only [Act.put, putA, putB, putC]
 refine wpG_t (i := 4) (oi := ⟨some 31, .extract (.tmp 27) 0, 22, "law.go:52", #[⟨3, .data⟩], none⟩) (v := ?_) ?_ ?_
 rotate_left
 ·intro W hW; go_simp <;> with_reducible rfl
 try simp only [Act.put, putA, putB, putC]
 refine wpG_t (i := 5) (oi := ⟨some 32, .extract (.tmp 27) 1, 22, "law.go:52", #[⟨3, .data⟩, ⟨7, .gcOnly .lateStores⟩], none⟩) (v := ?_) ?_ ?_
 rotate_left
 ·intro W hW; go_simp <;> with_reducible rfl
 try simp only [Act.put, putA, putB, putC]
 refine wpG_t (i := 6) (oi := ⟨some 33, .extract (.tmp 27) 2, 24, "law.go:52", #[⟨3, .data⟩, ⟨8, .gcOnly .lateStores⟩], none⟩) (v := ?_) ?_ ?_
 rotate_left
 ·intro W hW; go_simp <;> with_reducible rfl
 try simp only [Act.put, putA, putB, putC]
 refine wpG_t (i := 7) (oi := ⟨some 8, .assign (.tmp 31), 22, "law.go:52", #[⟨4, .data⟩, ⟨2, .chain⟩, ⟨0, .phase⟩, ⟨1, .phase⟩, ⟨2, .phase⟩, ⟨3, .phase⟩, ⟨4, .phase⟩, ⟨5, .textOnly .lateStores⟩, ⟨6, .textOnly .lateStores⟩], none⟩) (v := ?_) ?_ ?_
 rotate_left
 ·intro W hW; go_simp <;> with_reducible rfl
 try simp only [Act.put, putA, putB, putC]
 refine wpG_t (i := 8) (oi := ⟨some 9, .assign (.tmp 32), 22, "law.go:52", #[⟨5, .data⟩, ⟨7, .chain⟩, ⟨0, .phase⟩, ⟨1, .phase⟩, ⟨2, .phase⟩, ⟨3, .phase⟩, ⟨4, .phase⟩, ⟨5, .phase⟩, ⟨6, .textOnly .lateStores⟩, ⟨7, .phase⟩], none⟩) (v := ?_) ?_ ?_
 rotate_left
 ·intro W hW; go_simp <;> with_reducible rfl
 try simp only [Act.put, putA, putB, putC]
 refine wpG_t (i := 9) (oi := ⟨some 10, .assign (.tmp 33), 24, "law.go:52", #[⟨6, .data⟩, ⟨8, .chain⟩, ⟨0, .phase⟩, ⟨1, .phase⟩, ⟨2, .phase⟩, ⟨3, .phase⟩, ⟨4, .phase⟩, ⟨5, .phase⟩, ⟨6, .phase⟩, ⟨7, .phase⟩, ⟨8, .phase⟩], none⟩) (v := ?_) ?_ ?_
 rotate_left
 ·intro W hW; go_simp <;> with_reducible rfl
 try simp only [Act.put, putA, putB, putC]
 refine wpG_done (by kernel_rfl) ?_
 have LE : Hid ((ekL d).length = 1184) := ekL_length d
 have LD : Hid ((kdL d d).length = 2400) := kdL_length d d HDl.out
 generalize ekL d = E0 at hO LE
 generalize kdL d d = D0 at hO LD
 obtain ⟨gx, cx, gy, cy, rfl, rfl, hgx, hgy, hne, rx, ry⟩ := hO.two_rows (by intro h; have := LE.out; rw [h] at this; simp at this) (by intro h; have := LD.out; rw [h] at this; simp at this)
 rw [LE.out, LD.out]
 have hcx := rx.cap
 have hcy := ry.cap
 rw [byI_length, LE.out] at hcx
 rw [byI_length, LD.out] at hcy
 unfold maxLen at hcx hcy
 have HBd : Hid (Below w.heap.size w w2.drew) := hbw.drew
 have hb3 := hO.below
 have hlw : w.heap.size ≤ w2.drew.heap.size := hbw.drew.size
 obtain ⟨wB, hwB⟩ : ∃ wB, wB = w2.drew := ⟨_, rfl⟩
 rw [← hwB] at HBd hb3 hgx hgy hlw
 clear hO hbw K0 hwB HB HC HV e1 e2
 go_wp2
 go_loopw [11] (fun iv wx => ∃ (i : Nat) (E D : List UInt8), i ≤ 9 ∧ iv = .int .i64 (i : Int) ∧ Hid (E.length = 1184) ∧ Hid (D.length = 2400) ∧ RowAt .u8 5 gx cx (byI E) wx ∧ RowAt .u8 5 gy cy (byI D) wx ∧ Below wB.heap.size wB wx) (fun iv _ => 10 - (intOf iv).toNat)
 case atStart => exact ⟨0, E0, D0, by omega, rfl, LE, LD, rx, ry, hb3⟩
 case round =>
  obtain ⟨i, E, D, hi, rfl, HLE, HLD, re, rd, hbx⟩ := hrel
  clear rx ry hb3
  by_cases hgo : i + 1 < Lt ∧ i < 8
  ·obtain ⟨h1, h2⟩ := hgo
   have d1 : decide ((i : Int) + 1 < (Lt : Int)) = true := decide_eq_true (by omega)
   have g1 : (i : Int) + 1 < (Lt : Int) := by omega
   have d2 : decide ((i : Int) < 8) = true := decide_eq_true (by omega)
   have g2 : (i : Int) < 8 := by omega
   have g5 : (i : Int) < (Lt : Int) := by omega
   have g6 : i < Lt := by omega
   have hbt := stepB HBd.out hbx
   obtain ⟨bt, ot, ct', ev, hlc, hmx, hbt1, hcells⟩ := (HTn.out.kept hbt).cells (by intro h; rw [HLt.out, h] at h1; simp at h1)
   simp only [Value.slice.injEq] at ev
   obtain ⟨rfl, -, rfl⟩ := ev
   have ci := hcells i (by rw [← HLt.out]; omega)
   have cj := hcells (i + 1) (by rw [← HLt.out]; omega)
   obtain ⟨X, hX, hXa⟩ := and_small (t.getD i 0) 1023 (by decide)
   obtain ⟨Z, hZ, hZa⟩ := and_small (t.getD i 0) 2047 (by decide)
   obtain ⟨Y, hY, hYa⟩ := and_small (t.getD (i + 1) 0) 255 (by decide)
   have hXa' : bits .and .i64 (t.getD i 0) 1023 = (X : Int) := hXa
   have hZa' : bits .and .i64 (t.getD i 0) 2047 = (Z : Int) := hZa
   have hYa' : bits .and .i64 (t.getD (i + 1) 0) 255 = (Y : Int) := hYa
   clear hXa hYa hZa
   have hXI : (X : Int) < 1184 := by omega
   have hZI : (Z : Int) < 2400 := by omega
   obtain ⟨yb, hyb⟩ : ∃ yb : UInt8, yb.toNat = Y := ⟨UInt8.ofNat Y, by rw [UInt8.toNat_ofNat']; omega⟩
   have ey : IntKind.u8.wrap (Y : Int) = (Y : Int) := by rw [IntKind.wrap_u8]; omega
   have ey2 : (Y : Int) % 256 = (Y : Int) := by omega
   have cE := re.cellB (j := X) (by rw [HLE.out]; omega)
   have fE := re.free X
   have re5 := re.setB X yb
   rw [hyb] at re5
   have hw5 := Wrote.set gx X wr (.int .u8 (Y : Int))
   have rd5 := rd.wrote hw5 (Ne.symm hne)
   have hb5 := hw5.below _ _ hgx hbx
   have HL5 : Hid ((E.set X yb).length = 1184) := by show _ = _; rw [List.length_set]; exact HLE.out
   obtain ⟨w5, hw5e⟩ : ∃ w5, w5 = (wr.setCell ⟨gx, X, none⟩ (.int .u8 (Y : Int))).drew := ⟨_, rfl⟩
   have re6 : RowAt .u8 5 gx cx (byI (E.set X yb)) w5 := by rw [hw5e]; exact re5.drew
   have rd6 : RowAt .u8 5 gy cy (byI D) w5 := by rw [hw5e]; exact rd5.drew
   have hb6 : Below wB.heap.size wB w5 := by rw [hw5e]; exact hb5.drew
   obtain ⟨bt2, ot2, ct2, ev, -, -, -, hcells2⟩ := (HTn.out.kept (stepB HBd.out hb6)).cells (by intro h; rw [HLt.out, h] at h1; simp at h1)
   simp only [Value.slice.injEq, Option.some.injEq, Addr.mk.injEq, and_true, true_and] at ev
   obtain ⟨⟨rfl, rfl⟩, -⟩ := ev
   have ci2 := hcells2 i (by rw [← HLt.out]; omega)
   have cj2 := hcells2 (i + 1) (by rw [← HLt.out]; omega)
   have cD := rd6.cellB (j := Z) (by rw [HLD.out]; omega)
   have fD := rd6.free Z
   have rd7 := rd6.setB Z yb
   rw [hyb] at rd7
   have hw7 := Wrote.set gy Z w5 (.int .u8 (Y : Int))
   have re7 := re6.wrote hw7 hne
   have hb7 := hw7.below _ _ hgy hb6
   have HL7 : Hid ((D.set Z yb).length = 2400) := by show _ = _; rw [List.length_set]; exact HLD.out
   have R7 : Hid (RowAt .u8 5 gx cx (byI (E.set X yb)) (w5.setCell ⟨gy, Z, none⟩ (.int .u8 (Y : Int))) ∧ RowAt .u8 5 gy cy (byI (D.set Z yb)) (w5.setCell ⟨gy, Z, none⟩ (.int .u8 (Y : Int))) ∧ Below wB.heap.size wB (w5.setCell ⟨gy, Z, none⟩ (.int .u8 (Y : Int)))) := ⟨re7, rd7, hb7⟩
   generalize E.set X yb = E2 at R7 HL5
   generalize D.set Z yb = D2 at R7 HL7
   generalize t.getD i 0 = ti at ci ci2 hXa' hZa'
   generalize t.getD (i + 1) 0 = tj at cj cj2 hYa'
   have HW5 : Hid _ := hw5e
   have wi : IntKind.i64.wrap ((i : Int) + 1) = (i : Int) + 1 := IntWalk.i64_in _ (by omega)
   have ei : ((i : Int) + 1).toNat = i + 1 := by omega
   have ei0 : (0 : Int) ≤ (i : Int) + 1 := by omega
   clear re rd re5 rd5 hw5 hb5 re6 rd6 hb6 rd7 hw7 re7 hb7 hcells hcells2 hbt hbt1 hlc hmx hyb HLE HLD hbx hw5e
   go_wp2_with fail
   refine wpE_begin 14 (by kernel_rfl) ?_
   refine wpE_t (i := 0) (oi := ⟨some 45, .move (.tmp 8), 22, "law.go:54", #[], none⟩) (v := ?_) ?_ ?_
   rotate_left
   ·intro W hW; go_simp <;> with_reducible rfl
   try simp only [Act.put, putA, putB, putC]
   refine wpE_t (i := 1) (oi := ⟨some 46, .move (.tmp 2), 30, "law.go:54", #[], none⟩) (v := ?_) ?_ ?_
   rotate_left
   ·intro W hW; go_simp <;> with_reducible rfl
   try simp only [Act.put, putA, putB, putC]
   refine wpE_t (i := 2) (oi := ⟨some 47, .move (.tmp 11), 3, "law.go:54", #[], none⟩) (v := ?_) ?_ ?_
   rotate_left
   ·intro W hW; go_simp <;> with_reducible rfl
   try simp only [Act.put, putA, putB, putC]
   refine wpE_t (i := 3) (oi := ⟨some 48, .indexAddr 30 (.tmp 46) (.tmp 47), 0, "law.go:54", #[⟨1, .data⟩, ⟨2, .data⟩], none⟩) (v := ?_) ?_ ?_
   rotate_left
   ·intro W hW; go_simp <;> with_reducible rfl
   try simp only [Act.put, putA, putB, putC]
   refine wpE_t (i := 4) (oi := ⟨some 49, .load 3 (.tmp 48), 3, "law.go:54", #[⟨3, .data⟩], none⟩) (v := ?_) ?_ ?_
   rotate_left
   ·intro W hW; have hcw := cellU ci hW; go_simp <;> with_reducible rfl
   try simp only [Act.put, putA, putB, putC]
   refine wpE_t (i := 5) (oi := ⟨some 50, .binOp .and 3 (.tmp 49) (.const (.int .i64 1023)) 3, 3, "law.go:54", #[⟨4, .data⟩], none⟩) (v := ?_) ?_ ?_
   rotate_left
   ·intro W hW; go_simp <;> with_reducible rfl
   try simp only [Act.put, putA, putB, putC]
   refine wpE_t (i := 6) (oi := ⟨some 51, .move (.tmp 2), 30, "law.go:54", #[], none⟩) (v := ?_) ?_ ?_
   rotate_left
   ·intro W hW; go_simp <;> with_reducible rfl
   try simp only [Act.put, putA, putB, putC]
   refine wpE_t (i := 7) (oi := ⟨some 52, .move (.tmp 11), 3, "law.go:54", #[], none⟩) (v := ?_) ?_ ?_
   rotate_left
   ·intro W hW; go_simp <;> with_reducible rfl
   try simp only [Act.put, putA, putB, putC]
   refine wpE_t (i := 8) (oi := ⟨some 53, .binOp .add 3 (.tmp 52) (.const (.int .i64 1)) 3, 3, "law.go:54", #[⟨7, .data⟩], none⟩) (v := ?_) ?_ ?_
   rotate_left
   ·intro W hW; go_simp <;> with_reducible rfl
   try simp only [Act.put, putA, putB, putC]
   refine wpE_t (i := 9) (oi := ⟨some 54, .indexAddr 30 (.tmp 51) (.tmp 53), 0, "law.go:54", #[⟨6, .data⟩, ⟨8, .data⟩], none⟩) (v := ?_) ?_ ?_
   rotate_left
   ·intro W hW; go_simp <;> with_reducible rfl
   try simp only [Act.put, putA, putB, putC]
   refine wpE_t (i := 10) (oi := ⟨some 55, .load 3 (.tmp 54), 3, "law.go:54", #[⟨9, .data⟩], none⟩) (v := ?_) ?_ ?_
   rotate_left
   ·intro W hW; have hcw := cellU cj hW; go_simp <;> with_reducible rfl
   try simp only [Act.put, putA, putB, putC]
   refine wpE_t (i := 11) (oi := ⟨some 56, .binOp .and 3 (.tmp 55) (.const (.int .i64 255)) 3, 3, "law.go:54", #[⟨10, .data⟩], none⟩) (v := ?_) ?_ ?_
   rotate_left
   ·intro W hW; go_simp <;> with_reducible rfl
   try simp only [Act.put, putA, putB, putC]
   refine wpE_t (i := 12) (oi := ⟨some 57, .convert 3 5 (.tmp 56), 5, "law.go:54", #[⟨11, .data⟩], none⟩) (v := ?_) ?_ ?_
   rotate_left
   ·intro W hW; go_simp <;> with_reducible rfl
   try simp only [Act.put, putA, putB, putC]
   refine wpE_t (i := 13) (oi := ⟨some 58, .indexAddr 22 (.tmp 45) (.tmp 50), 0, "law.go:54", #[⟨0, .data⟩, ⟨5, .data⟩, ⟨0, .phase⟩, ⟨1, .phase⟩, ⟨2, .phase⟩, ⟨3, .phase⟩, ⟨4, .phase⟩, ⟨5, .phase⟩, ⟨6, .phase⟩, ⟨7, .phase⟩, ⟨8, .phase⟩, ⟨9, .phase⟩, ⟨10, .phase⟩, ⟨11, .phase⟩, ⟨12, .phase⟩], none⟩) (v := ?_) ?_ ?_
   rotate_left
   ·intro W hW; go_simp <;> with_reducible rfl
   try simp only [Act.put, putA, putB, putC]
   refine wpE_last (o := ⟨none, .store 5 (.tmp 58) (.tmp 57), 0, "law.go:54", #[⟨13, .data⟩, ⟨12, .data⟩, ⟨0, .phase⟩, ⟨1, .phase⟩, ⟨2, .phase⟩, ⟨3, .phase⟩, ⟨4, .phase⟩, ⟨5, .phase⟩, ⟨6, .phase⟩, ⟨7, .phase⟩, ⟨8, .phase⟩, ⟨9, .phase⟩, ⟨10, .phase⟩, ⟨11, .phase⟩, ⟨12, .phase⟩], none⟩) (by kernel_rfl) (by kernel_rfl) rfl (by rfl) fun K hK => ?_
   go_simp
   refine hK.out _ _ ?_
   clear hK K
   try simp only [Act.put, putA, putB, putC]
   rw [← HW5.out]
   clear ci cj cE fE HW5
   go_wp2_with fail
   refine wpE_begin 14 (by kernel_rfl) ?_
   refine wpE_t (i := 0) (oi := ⟨some 59, .move (.tmp 9), 22, "law.go:55", #[], none⟩) (v := ?_) ?_ ?_
   rotate_left
   ·intro W hW; go_simp <;> with_reducible rfl
   try simp only [Act.put, putA, putB, putC]
   refine wpE_t (i := 1) (oi := ⟨some 60, .move (.tmp 2), 30, "law.go:55", #[], none⟩) (v := ?_) ?_ ?_
   rotate_left
   ·intro W hW; go_simp <;> with_reducible rfl
   try simp only [Act.put, putA, putB, putC]
   refine wpE_t (i := 2) (oi := ⟨some 61, .move (.tmp 11), 3, "law.go:55", #[], none⟩) (v := ?_) ?_ ?_
   rotate_left
   ·intro W hW; go_simp <;> with_reducible rfl
   try simp only [Act.put, putA, putB, putC]
   refine wpE_t (i := 3) (oi := ⟨some 62, .indexAddr 30 (.tmp 60) (.tmp 61), 0, "law.go:55", #[⟨1, .data⟩, ⟨2, .data⟩], none⟩) (v := ?_) ?_ ?_
   rotate_left
   ·intro W hW; go_simp <;> with_reducible rfl
   try simp only [Act.put, putA, putB, putC]
   refine wpE_t (i := 4) (oi := ⟨some 63, .load 3 (.tmp 62), 3, "law.go:55", #[⟨3, .data⟩], none⟩) (v := ?_) ?_ ?_
   rotate_left
   ·intro W hW; have hcw := cellU ci2 hW; go_simp <;> with_reducible rfl
   try simp only [Act.put, putA, putB, putC]
   refine wpE_t (i := 5) (oi := ⟨some 64, .binOp .and 3 (.tmp 63) (.const (.int .i64 2047)) 3, 3, "law.go:55", #[⟨4, .data⟩], none⟩) (v := ?_) ?_ ?_
   rotate_left
   ·intro W hW; go_simp <;> with_reducible rfl
   try simp only [Act.put, putA, putB, putC]
   refine wpE_t (i := 6) (oi := ⟨some 65, .move (.tmp 2), 30, "law.go:55", #[], none⟩) (v := ?_) ?_ ?_
   rotate_left
   ·intro W hW; go_simp <;> with_reducible rfl
   try simp only [Act.put, putA, putB, putC]
   refine wpE_t (i := 7) (oi := ⟨some 66, .move (.tmp 11), 3, "law.go:55", #[], none⟩) (v := ?_) ?_ ?_
   rotate_left
   ·intro W hW; go_simp <;> with_reducible rfl
   try simp only [Act.put, putA, putB, putC]
   refine wpE_t (i := 8) (oi := ⟨some 67, .binOp .add 3 (.tmp 66) (.const (.int .i64 1)) 3, 3, "law.go:55", #[⟨7, .data⟩], none⟩) (v := ?_) ?_ ?_
   rotate_left
   ·intro W hW; go_simp <;> with_reducible rfl
   try simp only [Act.put, putA, putB, putC]
   refine wpE_t (i := 9) (oi := ⟨some 68, .indexAddr 30 (.tmp 65) (.tmp 67), 0, "law.go:55", #[⟨6, .data⟩, ⟨8, .data⟩], none⟩) (v := ?_) ?_ ?_
   rotate_left
   ·intro W hW; go_simp <;> with_reducible rfl
   try simp only [Act.put, putA, putB, putC]
   refine wpE_t (i := 10) (oi := ⟨some 69, .load 3 (.tmp 68), 3, "law.go:55", #[⟨9, .data⟩], none⟩) (v := ?_) ?_ ?_
   rotate_left
   ·intro W hW; have hcw := cellU cj2 hW; go_simp <;> with_reducible rfl
   try simp only [Act.put, putA, putB, putC]
   refine wpE_t (i := 11) (oi := ⟨some 70, .binOp .and 3 (.tmp 69) (.const (.int .i64 255)) 3, 3, "law.go:55", #[⟨10, .data⟩], none⟩) (v := ?_) ?_ ?_
   rotate_left
   ·intro W hW; go_simp <;> with_reducible rfl
   try simp only [Act.put, putA, putB, putC]
   refine wpE_t (i := 12) (oi := ⟨some 71, .convert 3 5 (.tmp 70), 5, "law.go:55", #[⟨11, .data⟩], none⟩) (v := ?_) ?_ ?_
   rotate_left
   ·intro W hW; go_simp <;> with_reducible rfl
   try simp only [Act.put, putA, putB, putC]
   refine wpE_t (i := 13) (oi := ⟨some 72, .indexAddr 22 (.tmp 59) (.tmp 64), 0, "law.go:55", #[⟨0, .data⟩, ⟨5, .data⟩, ⟨0, .phase⟩, ⟨1, .phase⟩, ⟨2, .phase⟩, ⟨3, .phase⟩, ⟨4, .phase⟩, ⟨5, .phase⟩, ⟨6, .phase⟩, ⟨7, .phase⟩, ⟨8, .phase⟩, ⟨9, .phase⟩, ⟨10, .phase⟩, ⟨11, .phase⟩, ⟨12, .phase⟩], none⟩) (v := ?_) ?_ ?_
   rotate_left
   ·intro W hW; go_simp <;> with_reducible rfl
   try simp only [Act.put, putA, putB, putC]
   refine wpE_last (o := ⟨none, .store 5 (.tmp 72) (.tmp 71), 0, "law.go:55", #[⟨13, .data⟩, ⟨12, .data⟩, ⟨0, .phase⟩, ⟨1, .phase⟩, ⟨2, .phase⟩, ⟨3, .phase⟩, ⟨4, .phase⟩, ⟨5, .phase⟩, ⟨6, .phase⟩, ⟨7, .phase⟩, ⟨8, .phase⟩, ⟨9, .phase⟩, ⟨10, .phase⟩, ⟨11, .phase⟩, ⟨12, .phase⟩], none⟩) (by kernel_rfl) (by kernel_rfl) rfl (by rfl) fun K hK => ?_
   go_simp
   refine hK.out _ _ ?_
   clear hK K
   try simp only [Act.put, putA, putB, putC]
   go_wp2
   go_roundw
   case rel => exact ⟨i + 2, E2, D2, by omega, by go_num, HL5, HL7, R7.out.1.drew, R7.out.2.1.drew, R7.out.2.2.drew⟩
   case measure => simp [intOf] <;> omega
  ·have hcase : (decide ((i : Int) + 1 < (Lt : Int)) = false ∧ (Lt : Int) ≤ (i : Int) + 1) ∨ (decide ((i : Int) + 1 < (Lt : Int)) = true ∧ (i : Int) + 1 < (Lt : Int) ∧ decide ((i : Int) < 8) = false ∧ (8 : Int) ≤ (i : Int)) := by
    by_cases h1 : i + 1 < Lt
    ·exact .inr ⟨decide_eq_true (by omega), by omega, decide_eq_false (by omega), by omega⟩
    ·exact .inl ⟨decide_eq_false (by omega), by omega⟩
   have x1 := re.rdB
   have y1 := rd.rdB
   rw [HLE.out] at x1
   rw [HLD.out] at y1
   have HX : Hid (Rd wr (.slice (some ⟨gx, 0, none⟩) 1184 cx) E) := x1
   have HY : Hid (Rd wr (.slice (some ⟨gy, 0, none⟩) 2400 cy) D) := y1
   have hb3 := stepB HBd.out hbx
   obtain ⟨C, hC⟩ : ∃ C : Int, C = ckE E := ⟨_, rfl⟩
   obtain ⟨V, hV⟩ : ∃ V : Int, V = cvE D := ⟨_, rfl⟩
   have HC : Hid _ := hC
   have HV : Hid _ := hV
   have e1 : (C == C) = true := by simp
   have e2 : (V == V) = true := by simp
   clear hC hV x1 y1 re rd hgo hbx
   rcases hcase with ⟨d1, g1⟩ | ⟨d1, g1, d2, g2⟩
   all_goals
    go_wp2_with fail
    refine (mcheck_any _ E _ HX.out).mono ?_
    rintro e wc ⟨rfl, b1⟩
    rw [← HC.out]
    go_wp2_with fail
    refine (ckE_any _ E _ (Rd.kept HX.out b1)).mono ?_
    rintro e wd ⟨rfl, b2⟩
    rw [← HC.out]
    replace b1 := stepB b1 b2
    clear b2
    go_wp2_with fail
    refine (mcv_any _ D _ (Rd.kept HY.out b1) (HT.out.kept (stepB hb3 b1))).mono ?_
    rintro e we ⟨rfl, b2⟩
    rw [← HV.out]
    replace b1 := stepB b1 b2
    clear b2
    go_wp2_with fail
    refine (cvE_any _ D _ (Rd.kept HY.out b1)).mono ?_
    rintro e wf ⟨rfl, b2⟩
    rw [← HV.out]
    have HB7 : Hid (Below w.heap.size w wf) := stepB hb3 (stepB b1 b2)
    clear b1 b2 hb3
    go_wp2
    go_ret
    exact ⟨rfl, HB7.out⟩
end Go.Proofs.YtmhbjaampobcbaaGreatDoor
