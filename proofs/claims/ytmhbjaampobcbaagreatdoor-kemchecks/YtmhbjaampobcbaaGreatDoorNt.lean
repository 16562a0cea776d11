/- What functions of the program, or of the reference, answer: contracts; several texts in one. -/
import Derived.Test.YtmhbjaampobcbaaGreatDoorJm
import Derived.Test.YtmhbjaampobcbaaGreatDoorRfa
import Derived.Test.YtmhbjaampobcbaaGreatDoorPoO
import Derived.Test.YtmhbjaampobcbaaGreatDoorZz
import Derived.Shelf.Abstract

namespace Go.Proofs.YtmhbjaampobcbaaGreatDoor
open Go.ChangeShapes Go.WideShapes Go.ChangeAt Go.RowKit
set_option linter.unusedSimpArgs false
set_option linter.unusedVariables false

theorem poInfoA (F : Nat → Int) : (Tryz.prog.info? 58).map (·.size) = some (gI F).length := by rw [gI_length]; kernel_rfl
theorem alloc_poA (w : World) : (Instr.alloc 58 true (.tuple #[])).run Tryz.prog w = .ok (.pointer (some ⟨w.heap.size, 0, none⟩)) (w.alloc (.cells ((gI fun _ => 0).map (Value.int .i64)).toArray 58)) := by kernel_rfl
theorem app1 (v c : Value) : #[v] ++ #[c] = #[v, c] := rfl
theorem app2 (v c d : Value) : #[v] ++ #[c, d] = #[v, c, d] := rfl
theorem put_place {f : Nat → FZ} {i : Nat} {G : Nat → Int} (h : ∀ k, k < i → G k = fzF f k) : ∀ k, k < i + 1 → (if k = i then (((f i).val : Nat) : Int) else G k) = fzF f k := by
 intro k hk
 by_cases e : k = i
 ·rw [if_pos e, e]
  rfl
 ·rw [if_neg e, h k (by omega)]

theorem enters_by {f : FuncId} {fn : Func} {c : Code} (hf : Tryz.prog.funcs[f]? = some fn) (hn : (fn.name == "runtime.NumGoroutine") = false) (hb : fn.body = some c) (args : Array Value) (w : World) : (callFunc f args).run Tryz.prog w = .ok (.enter f args) w := enters_of hf hn hb args w

set_option maxRecDepth 100000 in
set_option maxHeartbeats 2000000 in
theorem placed_any (K : FuncId) (caps : Array Value) (f : Nat → FZ) (w : World) (hE : ∀ (args : Array Value) (w : World), (callFunc K args).run Tryz.prog w = .ok (.enter K args) w)
  (hK : ∀ i : Nat, i < 256 → ∀ W, Below w.heap.size w W → Calls Tryz.prog K (#[Value.int .i64 (i : Int)] ++ caps) W fun e w' => e = .returned (.int .i64 (((f i).val : Nat) : Int)) ∧ Below W.heap.size W w') :
  Calls Tryz.prog 116 #[.func (.func K) #[] caps] w fun e w' => e = .returned (poV f) ∧ Below w.heap.size w w' := by
 have HK : Hid _ := hK
 clear hK
 go_enter Tryz.func116, Tryz.ntmps116
 go_wp2_with (refine wpList_alloc_row (k := .i64) rfl 58 rfl (gI fun _ => 0) (alloc_poA _) (gI_ne _) (poMax _) ?_)
 intro w1 rz b1 s1
 rw [gI_length] at rz
 go_wp2_with (refine wpList_alloc_row (k := .i64) rfl 58 rfl (gI fun _ => 0) (alloc_poA _) (gI_ne _) (poMax _) ?_)
 intro w2 ro b2 s2
 rw [gI_length] at ro
 replace rz := rz.kept b2
 have hbw := stepB b1 b2
 have n1 : w.heap.size < w1.heap.size := by have := s1.out; omega
 clear b1 b2 s1 s2
 go_wp2
 go_loopw [5] (fun iv wx => ∃ (i : Nat) (G : Nat → Int), i ≤ 256 ∧ iv = .int .i64 (i : Int) ∧ Hid (∀ k, k < i → G k = fzF f k) ∧ RowAt .i64 58 w.heap.size 256 (gI fun _ => 0) wx ∧ RowAt .i64 58 w1.heap.size 256 (gI G) wx ∧ Below w.heap.size w wx) (fun iv _ => 256 - (intOf iv).toNat)
 case atStart => exact ⟨0, fun _ => 0, by omega, rfl, (by show ∀ k, _; intro k hk; omega), rz, ro, hbw⟩
 case round =>
  obtain ⟨i, G, hi, rfl, HG, rx, ra, hbx⟩ := hrel
  clear rz ro hbw
  by_cases hlt : i < 256
  ·have hd : decide ((i : Int) < 256) = true := decide_eq_true (by omega)
   have hiI : (i : Int) < 256 := by omega
   have HG5 : Hid _ := put_place HG.out
   go_wp2_with fail
   refine (HK.out i hlt _ hbx).mono ?_
   rintro e w3 ⟨rfl, b3⟩
   replace ra := ra.kept b3
   replace rx := rx.kept b3
   replace hbx := stepB hbx b3
   generalize (f i).val = z at HG5
   have hc := ra.cell (j := i) (by rw [gI_length]; exact hlt)
   have hf := ra.free i
   have r5 := ra.set i ((z : Nat) : Int)
   rw [gI_set] at r5
   have hw5 := Wrote.set w1.heap.size i w3 (.int .i64 ((z : Nat) : Int))
   have R5 : Hid _ := r5
   have RZ : Hid _ := rx.wrote hw5 (by omega)
   have HB5 : Hid _ := hw5.below _ _ (by omega) hbx
   clear r5 hw5 ra rx hbx b3
   go_wp2
   go_roundw
   case rel => exact ⟨i + 1, _, by omega, by go_num, HG5, RZ.out, R5.out, HB5.out⟩
   case measure => simp [intOf] <;> omega
  ·have hie : i = 256 := by omega
   have hd : decide ((i : Int) < 256) = false := decide_eq_false (by omega)
   have hiI : (256 : Int) ≤ (i : Int) := by omega
   have HE : Hid (gI G = gI (fzF f)) := by
    show _ = _
    exact gI_congr fun k hk => HG.out k (by omega)
   rw [HE.out] at ra
   clear hie
   go_wp2_with (first | refine wpList_load_row rfl 58 _ rfl rfl ra _ Tryz.underlying58 rfl (poInfoA _) ?_ | (refine wpList_store_row rfl 58 _ _ rfl (gI (fzF f)) rfl rfl rx (by rw [gI_length, gI_length]) (poInfoA _) ?_; intro w7 r7 hw7))
   refine bodyPost_row (k := .i64) rfl rfl rfl r7 Tryz.underlying58 rfl (poInfoA _) ?_
   exact ⟨rfl, hw7.below _ _ (by omega) hbx⟩
theorem cellD11 {w W : World} {p : Addr} {v : Value} (h : w.cell? p = some v) (hb : Below w.drew.heap.size w.drew W) : W.cell? p = some v := cellB11 (w := w.drew) h hb
def ni (x : Int) : FZ := nz (rsZ x)
theorem ni_val (x : Int) : (ni x).val = rsZ x := by
 unfold ni
 rw [nz_val, Nat.mod_eq_of_lt (rsZ_lt x)]
theorem ni_fz (v : FZ) : ni ((v.val : Nat) : Int) = v := by
 refine Fin.ext ?_
 rw [ni_val, rsZ_nat]
 exact Nat.mod_eq_of_lt v.isLt
theorem ni_rF (F : Nat → Int) (k : Nat) : ni (F k) = rF F k := rfl
theorem in64_fz (v : FZ) : In64 ((v.val : Nat) : Int) := by have := v.isLt; exact ⟨by omega, by omega⟩
theorem ni_add (a b : Int) : (ni a + ni b).val = rsZ (a + b) := by rw [fz_val_add, ni_val, ni_val, rs_add]
theorem ni_sub (a b : Int) : (ni a - ni b).val = rsZ (a - b) := by rw [fz_val_sub, ni_val, ni_val, rs_sub]
theorem ni_mul (a b : Int) : (ni a * ni b).val = rsZ (a * b) := by rw [fz_val_mul, ni_val, ni_val, rs_mul]
theorem zmodF (a : Int) (ha : In64 a) (w : World) :
  Calls Tryz.prog 106 #[.int .i64 a] w fun e w' => e = .returned (.int .i64 (((ni a).val : Nat) : Int)) ∧ w' = w := by rw [ni_val]; exact zmod_any a ha w
theorem zaddF (a b : Int) (ha : In64 a) (hb : In64 b) (w : World) :
  Calls Tryz.prog 128 #[.int .i64 a, .int .i64 b] w fun e w' => e = .returned (.int .i64 (((ni a + ni b).val : Nat) : Int)) ∧ w' = w := by rw [ni_add]; exact zadd_any a b ha hb w
theorem zsubF (a b : Int) (ha : In64 a) (hb : In64 b) (w : World) :
  Calls Tryz.prog 118 #[.int .i64 a, .int .i64 b] w fun e w' => e = .returned (.int .i64 (((ni a - ni b).val : Nat) : Int)) ∧ w' = w := by rw [ni_sub]; exact zsub_any a b ha hb w
theorem zmulF (a b : Int) (ha : In64 a) (hb : In64 b) (w : World) :
  Calls Tryz.prog 122 #[.int .i64 a, .int .i64 b] w fun e w' => e = .returned (.int .i64 (((ni a * ni b).val : Nat) : Int)) ∧ w' = w := by rw [ni_mul]; exact zmul_any a b ha hb w
theorem zt_val (i : Nat) (h : i < 128) : (zt i).val = 17 ^ tnJ (twZ 7 (i : Int)) 7 % 3329 := by
 have e : twZ 7 (i : Int) = i := by unfold twZ; omega
 rw [e]
 unfold zt
 have := pz_nz 17 (tnJ i 7)
 rw [show nz 17 = 17 from rfl] at this
 rw [← this, nz_val]
theorem zzetaF (i : Nat) (h : i < 128) (w : World) (hT : PwT w) :
  Calls Tryz.prog 85 #[.int .i64 (i : Int)] w fun e w' => e = .returned (.int .i64 (((zt i).val : Nat) : Int)) ∧ w' = w := by rw [zt_val i h]; exact zzeta_any _ ⟨by omega, by omega⟩ w hT

set_option maxHeartbeats 1000000 in
theorem cclean_any (F : Nat → Int) (hF : Po F) (g : Nat) (i : Nat) (hi : i < 256) (w : World) (r : RowAt .i64 58 g 256 (gI F) w) :
  Calls Tryz.prog 127 #[.int .i64 (i : Int), .pointer (some ⟨g, 0, none⟩)] w fun e w' => e = .returned (.int .i64 (((rF F i).val : Nat) : Int)) ∧ Below w.heap.size w w' := by
 have hc := r.cell (j := i) (by rw [gI_length]; exact hi)
 rw [gI_get _ hi] at hc
 have hiI : (i : Int) < 256 := by omega
 have HF : Hid _ := hF.in64 i
 have HE : Hid (ni (F i) = rF F i) := ni_rF F i
 clear r hF
 go_enter Tryz.func127, Tryz.ntmps127
 go_wp2_with fail
 refine (zmodF (F i) HF.out _).mono ?_
 rintro e w1 ⟨rfl, rfl⟩
 go_wp2
 go_ret
 exact ⟨retZ (by rw [HE.out]), Below.refl _ _⟩

set_option maxRecDepth 100000 in
set_option maxHeartbeats 1000000 in
theorem cplus_any (F G : Nat → Int) (hF : Po F) (hG : Po G) (g h : Nat) (i : Nat) (hi : i < 256) (w : World) (r : RowAt .i64 58 g 256 (gI F) w) (s : RowAt .i64 58 h 256 (gI G) w) :
  Calls Tryz.prog 131 #[.int .i64 (i : Int), .pointer (some ⟨g, 0, none⟩), .pointer (some ⟨h, 0, none⟩)] w fun e w' => e = .returned (.int .i64 (((rF F i + rF G i).val : Nat) : Int)) ∧ Below w.heap.size w w' := by
 have hc := r.cell (j := i) (by rw [gI_length]; exact hi)
 have hd := s.cell (j := i) (by rw [gI_length]; exact hi)
 rw [gI_get _ hi] at hc hd
 have hiI : (i : Int) < 256 := by omega
 have HF : Hid _ := hF.in64 i
 have HG : Hid _ := hG.in64 i
 have HE : Hid (ni (F i) + ni (G i) = rF F i + rF G i) := by show _ = _; rfl
 clear r s hF hG
 go_enter Tryz.func131, Tryz.ntmps131
 go_wp2_with fail
 refine wpG_begin (by kernel_rfl) ?_
 refine wpG_t (i := 0) (oi := ⟨some 5, .move (.tmp 0), 3, "ntt.go:38", #[], none⟩) (v := ?_) ?_ ?_
 rotate_left
 ·intro W hW; go_simp <;> with_reducible rfl
 try simp only [Act.put, putA, putB, putC]
 refine wpG_t (i := 1) (oi := ⟨some 6, .indexAddr 58 (.tmp 1) (.tmp 5), 0, "ntt.go:38", #[⟨0, .data⟩], none⟩) (v := ?_) ?_ ?_
 rotate_left
 ·intro W hW; go_simp <;> with_reducible rfl
 try simp only [Act.put, putA, putB, putC]
 refine wpG_t (i := 2) (oi := ⟨some 7, .load 3 (.tmp 6), 3, "ntt.go:38", #[⟨1, .data⟩], none⟩) (v := ?_) ?_ ?_
 rotate_left
 ·intro W hW; have hcW := cellD11 hc hW; go_simp <;> with_reducible rfl
 try simp only [Act.put, putA, putB, putC]
 refine wpG_t (i := 3) (oi := ⟨some 8, .move (.tmp 0), 3, "ntt.go:38", #[], none⟩) (v := ?_) ?_ ?_
 rotate_left
 ·intro W hW; go_simp <;> with_reducible rfl
 try simp only [Act.put, putA, putB, putC]
 refine wpG_t (i := 4) (oi := ⟨some 9, .indexAddr 58 (.tmp 2) (.tmp 8), 0, "ntt.go:38", #[⟨3, .data⟩], none⟩) (v := ?_) ?_ ?_
 rotate_left
 ·intro W hW; go_simp <;> with_reducible rfl
 try simp only [Act.put, putA, putB, putC]
 refine wpG_t (i := 5) (oi := ⟨some 10, .load 3 (.tmp 9), 3, "ntt.go:38", #[⟨4, .data⟩], none⟩) (v := ?_) ?_ ?_
 rotate_left
 ·intro W hW; have hcW := cellD11 hd hW; go_simp <;> with_reducible rfl
 try simp only [Act.put, putA, putB, putC]
 refine wpG_do (i := 6) (o := ⟨some 11, .call { callee := .value (.func 128), args := #[.tmp 7, .tmp 10], argTypes := #[3, 3] }, 3, "ntt.go:38", #[⟨2, .data⟩, ⟨5, .data⟩], none⟩) (by kernel_rfl) rfl (by rfl) fun K hK => ?_
 go_simp
 refine (zaddF (F i) (G i) HF.out HG.out _).mono ?_
 rintro e w1 ⟨rfl, rfl⟩
 refine hK.out _ _ (Below.refl _ _) ?_
 clear hK K
 try simp only [Act.put, putA, putB, putC]
 refine wpG_t (i := 7) (oi := ⟨some 4, .assign (.tmp 11), 3, "ntt.go:38", #[⟨6, .data⟩, ⟨6, .chain⟩, ⟨0, .phase⟩, ⟨1, .phase⟩, ⟨2, .phase⟩, ⟨3, .phase⟩, ⟨4, .phase⟩, ⟨5, .phase⟩, ⟨6, .phase⟩], none⟩) (v := ?_) ?_ ?_
 rotate_left
 ·intro W hW; go_simp <;> with_reducible rfl
 try simp only [Act.put, putA, putB, putC]
 refine wpG_done (by kernel_rfl) ?_
 go_wp2
 go_ret
 exact ⟨retZ (by rw [HE.out]), (Below.refl _ _).drew⟩
set_option maxRecDepth 100000 in
set_option maxHeartbeats 1000000 in
theorem cminus_any (F G : Nat → Int) (hF : Po F) (hG : Po G) (g h : Nat) (i : Nat) (hi : i < 256) (w : World) (r : RowAt .i64 58 g 256 (gI F) w) (s : RowAt .i64 58 h 256 (gI G) w) :
  Calls Tryz.prog 117 #[.int .i64 (i : Int), .pointer (some ⟨g, 0, none⟩), .pointer (some ⟨h, 0, none⟩)] w fun e w' => e = .returned (.int .i64 (((rF F i - rF G i).val : Nat) : Int)) ∧ Below w.heap.size w w' := by
 have hc := r.cell (j := i) (by rw [gI_length]; exact hi)
 have hd := s.cell (j := i) (by rw [gI_length]; exact hi)
 rw [gI_get _ hi] at hc hd
 have hiI : (i : Int) < 256 := by omega
 have HF : Hid _ := hF.in64 i
 have HG : Hid _ := hG.in64 i
 have HE : Hid (ni (F i) - ni (G i) = rF F i - rF G i) := by show _ = _; rfl
 clear r s hF hG
 go_enter Tryz.func117, Tryz.ntmps117
 go_wp2_with fail
 refine wpG_begin (by kernel_rfl) ?_
 refine wpG_t (i := 0) (oi := ⟨some 5, .move (.tmp 0), 3, "ntt.go:43", #[], none⟩) (v := ?_) ?_ ?_
 rotate_left
 ·intro W hW; go_simp <;> with_reducible rfl
 try simp only [Act.put, putA, putB, putC]
 refine wpG_t (i := 1) (oi := ⟨some 6, .indexAddr 58 (.tmp 1) (.tmp 5), 0, "ntt.go:43", #[⟨0, .data⟩], none⟩) (v := ?_) ?_ ?_
 rotate_left
 ·intro W hW; go_simp <;> with_reducible rfl
 try simp only [Act.put, putA, putB, putC]
 refine wpG_t (i := 2) (oi := ⟨some 7, .load 3 (.tmp 6), 3, "ntt.go:43", #[⟨1, .data⟩], none⟩) (v := ?_) ?_ ?_
 rotate_left
 ·intro W hW; have hcW := cellD11 hc hW; go_simp <;> with_reducible rfl
 try simp only [Act.put, putA, putB, putC]
 refine wpG_t (i := 3) (oi := ⟨some 8, .move (.tmp 0), 3, "ntt.go:43", #[], none⟩) (v := ?_) ?_ ?_
 rotate_left
 ·intro W hW; go_simp <;> with_reducible rfl
 try simp only [Act.put, putA, putB, putC]
 refine wpG_t (i := 4) (oi := ⟨some 9, .indexAddr 58 (.tmp 2) (.tmp 8), 0, "ntt.go:43", #[⟨3, .data⟩], none⟩) (v := ?_) ?_ ?_
 rotate_left
 ·intro W hW; go_simp <;> with_reducible rfl
 try simp only [Act.put, putA, putB, putC]
 refine wpG_t (i := 5) (oi := ⟨some 10, .load 3 (.tmp 9), 3, "ntt.go:43", #[⟨4, .data⟩], none⟩) (v := ?_) ?_ ?_
 rotate_left
 ·intro W hW; have hcW := cellD11 hd hW; go_simp <;> with_reducible rfl
 try simp only [Act.put, putA, putB, putC]
 refine wpG_do (i := 6) (o := ⟨some 11, .call { callee := .value (.func 118), args := #[.tmp 7, .tmp 10], argTypes := #[3, 3] }, 3, "ntt.go:43", #[⟨2, .data⟩, ⟨5, .data⟩], none⟩) (by kernel_rfl) rfl (by rfl) fun K hK => ?_
 go_simp
 refine (zsubF (F i) (G i) HF.out HG.out _).mono ?_
 rintro e w1 ⟨rfl, rfl⟩
 refine hK.out _ _ (Below.refl _ _) ?_
 clear hK K
 try simp only [Act.put, putA, putB, putC]
 refine wpG_t (i := 7) (oi := ⟨some 4, .assign (.tmp 11), 3, "ntt.go:43", #[⟨6, .data⟩, ⟨6, .chain⟩, ⟨0, .phase⟩, ⟨1, .phase⟩, ⟨2, .phase⟩, ⟨3, .phase⟩, ⟨4, .phase⟩, ⟨5, .phase⟩, ⟨6, .phase⟩], none⟩) (v := ?_) ?_ ?_
 rotate_left
 ·intro W hW; go_simp <;> with_reducible rfl
 try simp only [Act.put, putA, putB, putC]
 refine wpG_done (by kernel_rfl) ?_
 go_wp2
 go_ret
 exact ⟨retZ (by rw [HE.out]), (Below.refl _ _).drew⟩
abbrev prV (a b : FZ) : Value := .tuple #[.int .i64 ((a.val : Nat) : Int), .int .i64 ((b.val : Nat) : Int)]
set_option maxHeartbeats 1000000 in
theorem split_any (z a b : FZ) (w : World) :
  Calls Tryz.prog 86 #[.int .i64 ((z.val : Nat) : Int), .int .i64 ((a.val : Nat) : Int), .int .i64 ((b.val : Nat) : Int)] w fun e w' => e = .returned (prV (sp1 z a b) (sp2 z a b)) ∧ Below w.heap.size w w' := by
 have H1 : Hid (ni ((z.val : Nat) : Int) * ni ((b.val : Nat) : Int) = z * b) := by show _ = _; rw [ni_fz, ni_fz]
 have H2 : Hid (ni ((a.val : Nat) : Int) + ni (((z * b).val : Nat) : Int) = sp1 z a b) := by show _ = _; rw [ni_fz, ni_fz]; rfl
 have H3 : Hid (ni ((a.val : Nat) : Int) - ni (((z * b).val : Nat) : Int) = sp2 z a b) := by show _ = _; rw [ni_fz, ni_fz]; rfl
 go_enter Tryz.func86, Tryz.ntmps86
 go_wp2_with fail
 refine (zmulF _ _ (in64_fz z) (in64_fz b) _).mono ?_
 rintro e w1 ⟨rfl, rfl⟩
 rw [H1.out]
 go_wp2_with fail
 refine (zaddF _ _ (in64_fz a) (in64_fz (z * b)) _).mono ?_
 rintro e w1 ⟨rfl, rfl⟩
 rw [H2.out]
 go_wp2_with fail
 refine (zsubF _ _ (in64_fz a) (in64_fz (z * b)) _).mono ?_
 rintro e w1 ⟨rfl, rfl⟩
 rw [H3.out]
 go_wp2
 go_ret2
 exact ⟨rfl, Below.refl _ _⟩
set_option maxHeartbeats 1000000 in
theorem join_two (z a b : FZ) (w : World) :
  Calls Tryz.prog 120 #[.int .i64 ((z.val : Nat) : Int), .int .i64 ((a.val : Nat) : Int), .int .i64 ((b.val : Nat) : Int)] w fun e w' => e = .returned (prV (jn1 z a b) (jn2 z a b)) ∧ Below w.heap.size w w' := by
 have H1 : Hid (ni ((a.val : Nat) : Int) + ni ((b.val : Nat) : Int) = jn1 z a b) := by show _ = _; rw [ni_fz, ni_fz]; rfl
 have H2 : Hid (ni ((b.val : Nat) : Int) - ni ((a.val : Nat) : Int) = b - a) := by show _ = _; rw [ni_fz, ni_fz]
 have H3 : Hid (ni ((z.val : Nat) : Int) * ni (((b - a).val : Nat) : Int) = jn2 z a b) := by show _ = _; rw [ni_fz, ni_fz]; rfl
 go_enter Tryz.func120, Tryz.ntmps120
 go_wp2_with fail
 refine (zaddF _ _ (in64_fz a) (in64_fz b) _).mono ?_
 rintro e w1 ⟨rfl, rfl⟩
 rw [H1.out]
 go_wp2_with fail
 refine (zsubF _ _ (in64_fz b) (in64_fz a) _).mono ?_
 rintro e w1 ⟨rfl, rfl⟩
 rw [H2.out]
 go_wp2_with fail
 refine (zmulF _ _ (in64_fz z) (in64_fz (b - a)) _).mono ?_
 rintro e w1 ⟨rfl, rfl⟩
 rw [H3.out]
 go_wp2
 go_ret2
 exact ⟨rfl, Below.refl _ _⟩
theorem half_facts {h : Nat} (hh : Hf h) : ∃ d n : Nat, d = 2 * h ∧ n = 256 / (2 * h) ∧ IntKind.i64.wrap (2 * (h : Int)) = (d : Int) ∧ Int.tdiv 256 (d : Int) = (n : Int) ∧ IntKind.i64.wrap (n : Int) = (n : Int) ∧ ((d : Int) == 0) = false ∧ 0 < d ∧ n ≤ 64 ∧ h ≤ 128 ∧ 0 < h := by
 refine ⟨2 * h, 256 / (2 * h), rfl, rfl, ?_⟩
 unfold Hf at hh
 rcases hh with rfl | rfl | rfl | rfl | rfl | rfl | rfl <;> decide
theorem start_facts {h b d n : Nat} (hh : Hf h) (hd : d = 2 * h) (hn : n = 256 / (2 * h)) (hb : b < n) : ∃ s : Nat, s = 2 * h * b ∧ s + h ≤ 256 ∧ IntKind.i64.wrap ((d : Int) * (b : Int)) = (s : Int) ∧ IntKind.i64.wrap ((s : Int) + (h : Int)) = ((s + h : Nat) : Int) := by
 subst hd hn
 have h0 := (xd_pair hh hb (j := 0) (by unfold Hf at hh; omega)).1
 have e : ((2 * h : Nat) : Int) * (b : Int) = ((2 * h * b : Nat) : Int) := by simp
 refine ⟨2 * h * b, rfl, by omega, ?_, ?_⟩
 ·rw [e]
  exact IntWalk.i64_in _ (by omega)
 ·rw [IntWalk.i64_in _ (by omega)]
  omega

set_option maxRecDepth 100000 in
set_option maxHeartbeats 4000000 in
theorem crossed_any (KZ KC : FuncId) (cz : Array Value) (A : Array Value) (F : Nat → FZ) (hA : A = ((gI (fzF F)).map (Value.int .i64)).toArray) (h : Nat) (hh : Hf h) (Z : Nat → FZ) (C1 C2 : FZ → FZ → FZ → FZ) (w : World)
  (hEz : ∀ (args : Array Value) (w : World), (callFunc KZ args).run Tryz.prog w = .ok (.enter KZ args) w)
  (hEc : ∀ (args : Array Value) (w : World), (callFunc KC args).run Tryz.prog w = .ok (.enter KC args) w)
  (hZ : ∀ b : Nat, b < 256 / (2 * h) → ∀ W, Below w.heap.size w W → Calls Tryz.prog KZ (#[Value.int .i64 (b : Int)] ++ cz) W fun e w' => e = .returned (.int .i64 (((Z b).val : Nat) : Int)) ∧ Below W.heap.size W w')
  (hC : ∀ (z a b : FZ) (W : World), Calls Tryz.prog KC #[.int .i64 ((z.val : Nat) : Int), .int .i64 ((a.val : Nat) : Int), .int .i64 ((b.val : Nat) : Int)] W fun e w' => e = .returned (prV (C1 z a b) (C2 z a b)) ∧ Below W.heap.size W w') :
  Calls Tryz.prog 83 #[.agg A, .int .i64 (h : Int), .func (.func KZ) #[] cz, .func (.func KC) #[] #[]] w fun e w' => e = .returned (poV (xg h Z C1 C2 F)) ∧ Below w.heap.size w w' := by
 have HZ : Hid _ := hZ
 have HC : Hid _ := hC
 have HH : Hid (Hf h) := hh
 obtain ⟨d, n, hd, hn, c1, c2, c3, c4, c5, c6, c7, c8⟩ := half_facts hh
 have HD : Hid (d = 2 * h) := hd
 have HN : Hid (n = 256 / (2 * h)) := hn
 clear hZ hC hh hd hn
 go_enter Tryz.func83, Tryz.ntmps83
 go_wp2_with (refine wpList_box_row (k := .i64) rfl 58 _ rfl (gI (fzF F)) (by rw [← hA]; rfl) (gI_ne _) (poMax _) ?_)
 intro w1 ra b1 s1
 rw [gI_length] at ra
 have hbw := b1
 have n1 : w.heap.size < w1.heap.size := by have := s1.out; omega
 clear b1 s1 hA
 go_wp2_with (refine wpList_alloc_row (k := .i64) rfl 58 rfl (gI fun _ => 0) (alloc_poA _) (gI_ne _) (poMax _) ?_)
 intro w2 rz b2 s2
 rw [gI_length] at rz
 replace ra := ra.kept b2
 replace hbw := stepB hbw b2
 clear b2 s2
 go_wp2
 go_loopw [16] (fun bv wx => ∃ (b : Nat) (G : Nat → Int), b ≤ n ∧ bv = .int .i64 (b : Int) ∧ Hid (Xs h Z C1 C2 F b 0 G) ∧ RowAt .i64 58 w.heap.size 256 (gI G) wx ∧ RowAt .i64 58 w1.heap.size 256 (gI fun _ => 0) wx ∧ Below w.heap.size w wx) (fun bv _ => n - (intOf bv).toNat)
 case atStart => exact ⟨0, fzF F, by omega, rfl, Xs.start h Z C1 C2 F, ra, rz, hbw⟩
 case round =>
  obtain ⟨b, G, hb, rfl, HG, ra1, rz1, hbx⟩ := hrel
  clear ra rz hbw
  by_cases hlt : b < n
  ·have hdb : decide ((b : Int) < (n : Int)) = true := decide_eq_true (by omega)
   have hbI : (b : Int) < (n : Int) := by omega
   obtain ⟨s, hs, sl, x1, x2⟩ := start_facts HH.out HD.out HN.out hlt
   have HS : Hid (s = 2 * h * b) := hs
   have HLT : Hid (b < 256 / (2 * h)) := by show _ < _; rw [← HN.out]; exact hlt
   clear hs
   go_wp2_with fail
   refine (HZ.out b HLT.out _ hbx).mono ?_
   rintro e w3 ⟨rfl, b3⟩
   replace ra1 := ra1.kept b3
   replace rz1 := rz1.kept b3
   replace hbx := stepB hbx b3
   clear b3
   obtain ⟨z, hz⟩ : ∃ z : FZ, z = Z b := ⟨_, rfl⟩
   rw [← hz]
   have HZB : Hid (z = Z b) := hz
   clear hz
   obtain ⟨t, ht⟩ : ∃ t : Nat, t = s + h := ⟨_, rfl⟩
   rw [← ht] at x2
   have HT : Hid (t = s + h) := ht
   clear ht
   go_wp2
   go_loopw [12] (fun iv wx => ∃ (j i : Nat) (G : Nat → Int), j ≤ h ∧ i = s + j ∧ iv = .int .i64 (i : Int) ∧ Hid (Xs h Z C1 C2 F b j G) ∧ RowAt .i64 58 w.heap.size 256 (gI G) wx ∧ RowAt .i64 58 w1.heap.size 256 (gI fun _ => 0) wx ∧ Below w.heap.size w wx) (fun iv _ => s + h - (intOf iv).toNat)
   case atStart => exact ⟨0, s, G, by omega, rfl, rfl, HG, ra1, rz1, hbx⟩
   case round =>
    obtain ⟨j, i, G2, hj, hij, rfl, HG2, ra2, rz2, hby⟩ := hrel
    have HIJ : Hid (i = s + j) := hij
    clear ra1 rz1 hbx HG hij
    by_cases hlj : j < h
    ·have hil : i < t := by have := HIJ.out; have := HT.out; omega
     have hdi : decide ((i : Int) < (t : Int)) = true := decide_eq_true (by omega)
     have hiI : (i : Int) < (t : Int) := by omega
     obtain ⟨k, hk⟩ : ∃ k : Nat, k = i + h := ⟨_, rfl⟩
     have HP : Hid (k < 256 ∧ i = 2 * h * b + j) := by
      show _ ∧ _
      have h1 := xd_pair HH.out HLT.out hlj
      have h2 := HS.out
      have h3 := HIJ.out
      omega
     have hi6 : i < 256 := by have := HP.out.1; omega
     have hk6 := HP.out.1
     have hi6I : (i : Int) < 256 := by omega
     have hk6I : (k : Int) < 256 := by omega
     have x3 : IntKind.i64.wrap ((i : Int) + (h : Int)) = (k : Int) := by rw [IntWalk.i64_in _ (by omega)]; omega
     have hca := ra2.cell (j := i) (by rw [gI_length]; exact hi6)
     have hcb := ra2.cell (j := k) (by rw [gI_length]; exact hk6)
     rw [gI_get _ hi6, HP.out.2, HG2.out.low HH.out HLT.out hlj, ← HP.out.2] at hca
     rw [gI_get _ hk6, hk, HP.out.2, HG2.out.high HH.out HLT.out hlj, ← HP.out.2, ← hk] at hcb
     have HK : Hid (k = i + h) := hk
     unfold fzF at hca hcb
     have HNX2 : Hid (Xs h Z C1 C2 F b (j + 1) (fun p => if p = k then (((C2 z (F i) (F k)).val : Nat) : Int) else if p = i then (((C1 z (F i) (F k)).val : Nat) : Int) else G2 p)) :=
      HG2.out.put HH.out HLT.out hlj HP.out.2 HK.out (by rw [HZB.out]) (by rw [HZB.out])
     clear hk
     go_wp2_with fail
     have hB : Below wr.heap.size wr wr.drew := (Below.refl _ _).drew
     refine wpF_begin 19 (w0 := wr) (by kernel_rfl) ?_
     refine wpF_p (hb := .inr hB) (i := 0) (oi := ⟨some 35, .move (.tmp 12), 3, "ntt.go:53", #[], none⟩) (v := ?_) ?_ ?_
     rotate_left
     ·intro W; go_simp <;> with_reducible rfl
     try simp only [Act.put, putA, putB, putC]
     refine wpF_p (hb := .inr hB) (i := 1) (oi := ⟨some 36, .move (.tmp 12), 3, "ntt.go:53", #[⟨19, .gcOnly .lateStores⟩], none⟩) (v := ?_) ?_ ?_
     rotate_left
     ·intro W; go_simp <;> with_reducible rfl
     try simp only [Act.put, putA, putB, putC]
     refine wpF_p (hb := .inr hB) (i := 2) (oi := ⟨some 37, .move (.tmp 1), 3, "ntt.go:53", #[⟨19, .gcOnly .lateStores⟩], none⟩) (v := ?_) ?_ ?_
     rotate_left
     ·intro W; go_simp <;> with_reducible rfl
     try simp only [Act.put, putA, putB, putC]
     refine wpF_p (hb := .inr hB) (i := 3) (oi := ⟨some 38, .binOp .add 3 (.tmp 36) (.tmp 37) 3, 3, "ntt.go:53", #[⟨1, .data⟩, ⟨2, .data⟩, ⟨19, .gcOnly .lateStores⟩], none⟩) (v := ?_) ?_ ?_
     rotate_left
     ·intro W; go_simp <;> with_reducible rfl
     try simp only [Act.put, putA, putB, putC]
     refine wpF_p (hb := .inr hB) (i := 4) (oi := ⟨some 39, .move (.tmp 3), 103, "ntt.go:53", #[], none⟩) (v := ?_) ?_ ?_
     rotate_left
     ·intro W; go_simp <;> with_reducible rfl
     try simp only [Act.put, putA, putB, putC]
     refine wpF_p (hb := .inr hB) (i := 5) (oi := ⟨some 40, .move (.tmp 10), 3, "ntt.go:53", #[], none⟩) (v := ?_) ?_ ?_
     rotate_left
     ·intro W; go_simp <;> with_reducible rfl
     try simp only [Act.put, putA, putB, putC]
     refine wpF_p (hb := .inr hB) (i := 6) (oi := ⟨some 41, .move (.tmp 12), 3, "ntt.go:53", #[], none⟩) (v := ?_) ?_ ?_
     rotate_left
     ·intro W; go_simp <;> with_reducible rfl
     try simp only [Act.put, putA, putB, putC]
     refine wpF_p (hb := .inr hB) (i := 7) (oi := ⟨some 42, .indexAddr 58 (.tmp 4) (.tmp 41), 0, "ntt.go:53", #[⟨6, .data⟩], none⟩) (v := ?_) ?_ ?_
     rotate_left
     ·intro W; go_simp <;> with_reducible rfl
     try simp only [Act.put, putA, putB, putC]
     refine wpF_t (hb := hB) (i := 8) (oi := ⟨some 43, .load 3 (.tmp 42), 3, "ntt.go:53", #[⟨7, .data⟩], none⟩) (v := ?_) ?_ ?_
     rotate_left
     ·intro W hW; have hcW := cellB11 hca hW; go_simp <;> with_reducible rfl
     try simp only [Act.put, putA, putB, putC]
     refine wpF_p (hb := .inr hB) (i := 9) (oi := ⟨some 44, .move (.tmp 12), 3, "ntt.go:53", #[], none⟩) (v := ?_) ?_ ?_
     rotate_left
     ·intro W; go_simp <;> with_reducible rfl
     try simp only [Act.put, putA, putB, putC]
     refine wpF_p (hb := .inr hB) (i := 10) (oi := ⟨some 45, .move (.tmp 1), 3, "ntt.go:53", #[], none⟩) (v := ?_) ?_ ?_
     rotate_left
     ·intro W; go_simp <;> with_reducible rfl
     try simp only [Act.put, putA, putB, putC]
     refine wpF_p (hb := .inr hB) (i := 11) (oi := ⟨some 46, .binOp .add 3 (.tmp 44) (.tmp 45) 3, 3, "ntt.go:53", #[⟨9, .data⟩, ⟨10, .data⟩], none⟩) (v := ?_) ?_ ?_
     rotate_left
     ·intro W; go_simp <;> with_reducible rfl
     try simp only [Act.put, putA, putB, putC]
     refine wpF_p (hb := .inr hB) (i := 12) (oi := ⟨some 47, .indexAddr 58 (.tmp 4) (.tmp 46), 0, "ntt.go:53", #[⟨11, .data⟩], none⟩) (v := ?_) ?_ ?_
     rotate_left
     ·intro W; go_simp <;> with_reducible rfl
     try simp only [Act.put, putA, putB, putC]
     refine wpF_t (hb := hB) (i := 13) (oi := ⟨some 48, .load 3 (.tmp 47), 3, "ntt.go:53", #[⟨12, .data⟩], none⟩) (v := ?_) ?_ ?_
     rotate_left
     ·intro W hW; have hcW := cellB11 hcb hW; go_simp <;> with_reducible rfl
     try simp only [Act.put, putA, putB, putC]
     refine wpF_do (i := 14) (o := ⟨some 49, .call { callee := .value (.tmp 39), args := #[.tmp 40, .tmp 43, .tmp 48], argTypes := #[3, 3, 3] }, 121, "ntt.go:53", #[⟨4, .data⟩, ⟨5, .data⟩, ⟨8, .data⟩, ⟨13, .data⟩], none⟩) (by kernel_rfl) rfl (by rfl) fun K hK => ?_
     go_simp
     refine (HC.out z (F i) (F k) _).mono ?_
     rintro e w5 ⟨rfl, b5⟩
     replace hB := stepB hB b5
     have r5 := ra2.drew.kept b5
     refine hK.out _ _ (.inr hB) ?_
     clear hK K
     try simp only [Act.put, putA, putB, putC]
     refine wpF_p (hb := .inr hB) (i := 15) (oi := ⟨some 34, .move (.tmp 49), 121, "ntt.go:53", #[⟨14, .data⟩], none⟩) (v := ?_) ?_ ?_
     rotate_left
     ·intro W; go_simp <;> with_reducible rfl
     try simp only [Act.put, putA, putB, putC]
     refine wpF_p (hb := .inr hB) (i := 16) (oi := ⟨some 50, .extract (.tmp 34) 0, 3, "ntt.go:53", #[⟨15, .data⟩], none⟩) (v := ?_) ?_ ?_
     rotate_left
     ·intro W; go_simp <;> with_reducible rfl
     try simp only [Act.put, putA, putB, putC]
     refine wpF_p (hb := .inr hB) (i := 17) (oi := ⟨some 51, .extract (.tmp 34) 1, 3, "ntt.go:53", #[⟨15, .data⟩, ⟨19, .gcOnly .lateStores⟩], none⟩) (v := ?_) ?_ ?_
     rotate_left
     ·intro W; go_simp <;> with_reducible rfl
     try simp only [Act.put, putA, putB, putC]
     refine wpF_p (hb := .inr hB) (i := 18) (oi := ⟨some 52, .indexAddr 58 (.tmp 4) (.tmp 35), 0, "ntt.go:53", #[⟨0, .data⟩, ⟨0, .phase⟩, ⟨1, .textOnly .lateStores⟩, ⟨2, .textOnly .lateStores⟩, ⟨3, .textOnly .lateStores⟩, ⟨4, .phase⟩, ⟨5, .phase⟩, ⟨6, .phase⟩, ⟨7, .phase⟩, ⟨8, .phase⟩, ⟨9, .phase⟩, ⟨10, .phase⟩, ⟨11, .phase⟩, ⟨12, .phase⟩, ⟨13, .phase⟩, ⟨14, .phase⟩, ⟨15, .phase⟩, ⟨16, .phase⟩, ⟨17, .textOnly .lateStores⟩], none⟩) (v := ?_) ?_ ?_
     rotate_left
     ·intro W; go_simp <;> with_reducible rfl
     try simp only [Act.put, putA, putB, putC]
     refine wpF_do (i := 19) (o := ⟨none, .store 3 (.tmp 52) (.tmp 50), 0, "ntt.go:53", #[⟨18, .data⟩, ⟨16, .data⟩, ⟨14, .chain⟩, ⟨0, .phase⟩, ⟨1, .textOnly .lateStores⟩, ⟨2, .textOnly .lateStores⟩, ⟨3, .textOnly .lateStores⟩, ⟨4, .phase⟩, ⟨5, .phase⟩, ⟨6, .phase⟩, ⟨7, .phase⟩, ⟨8, .phase⟩, ⟨9, .phase⟩, ⟨10, .phase⟩, ⟨11, .phase⟩, ⟨12, .phase⟩, ⟨13, .phase⟩, ⟨14, .phase⟩, ⟨15, .phase⟩, ⟨16, .phase⟩, ⟨17, .textOnly .lateStores⟩], none⟩) (by kernel_rfl) rfl (by rfl) fun K hK => ?_
     refine wp_store_int _ _ (by rfl) (by rfl) (((C1 z (F i) (F k)).val : Nat) : Int) (by rfl) r5 (by rw [gI_length]; exact hi6) ?_
     intro w6 r6 hw6
     rw [gI_set] at r6
     refine hK.out _ _ (.inl rfl) ?_
     clear hK K
     try simp only [Act.put, putA, putB, putC]
     refine wpF_p (hb := .inl (by kernel_rfl)) (i := 20) (oi := ⟨some 53, .indexAddr 58 (.tmp 4) (.tmp 38), 0, "ntt.go:53", #[⟨3, .data⟩, ⟨0, .phase⟩, ⟨1, .phase⟩, ⟨2, .phase⟩, ⟨3, .phase⟩, ⟨4, .phase⟩, ⟨5, .phase⟩, ⟨6, .phase⟩, ⟨7, .phase⟩, ⟨8, .phase⟩, ⟨9, .phase⟩, ⟨10, .phase⟩, ⟨11, .phase⟩, ⟨12, .phase⟩, ⟨13, .phase⟩, ⟨14, .phase⟩, ⟨15, .phase⟩, ⟨16, .phase⟩, ⟨17, .phase⟩, ⟨18, .phase⟩, ⟨19, .phase⟩], none⟩) (v := ?_) ?_ ?_
     rotate_left
     ·intro W; go_simp <;> with_reducible rfl
     try simp only [Act.put, putA, putB, putC]
     refine wpF_more (i := 21) (o := ⟨none, .store 3 (.tmp 53) (.tmp 51), 0, "ntt.go:53", #[⟨20, .data⟩, ⟨17, .data⟩, ⟨19, .chain⟩, ⟨0, .phase⟩, ⟨1, .phase⟩, ⟨2, .phase⟩, ⟨3, .phase⟩, ⟨4, .phase⟩, ⟨5, .phase⟩, ⟨6, .phase⟩, ⟨7, .phase⟩, ⟨8, .phase⟩, ⟨9, .phase⟩, ⟨10, .phase⟩, ⟨11, .phase⟩, ⟨12, .phase⟩, ⟨13, .phase⟩, ⟨14, .phase⟩, ⟨15, .phase⟩, ⟨16, .phase⟩, ⟨17, .phase⟩, ⟨18, .phase⟩, ⟨19, .phase⟩], none⟩) (by kernel_rfl) (by kernel_rfl) rfl (by rfl) fun K hK => ?_
     refine wp_store_int _ _ (by rfl) (by rfl) (((C2 z (F i) (F k)).val : Nat) : Int) (by rfl) r6 (by rw [gI_length]; exact hk6) ?_
     intro w7 r7 hw7
     rw [gI_set] at r7
     refine hK.out _ _ ?_
     clear hK K
     try simp only [Act.put, putA, putB, putC]
     refine wpF_done (by kernel_rfl) ?_
     have rz5 := (rz2.drew.kept b5)
     replace rz5 := rz5.wrote hw6 (by omega)
     replace rz5 := rz5.wrote hw7 (by omega)
     have hb5 := stepB hby.drew b5
     replace hb5 := hw6.below _ _ (Nat.le_refl _) hb5
     replace hb5 := hw7.below _ _ (Nat.le_refl _) hb5
     have x4 : IntKind.i64.wrap ((i : Int) + 1) = ((i + 1 : Nat) : Int) := by rw [IntWalk.i64_in _ (by omega)]; omega
     clear ra2 rz2 hby hca hcb hw6 hw7 b5 r5 r6 hB
     go_wp2
     go_roundw
     case rel => exact ⟨j + 1, i + 1, _, by omega, by have := HIJ.out; omega, by go_num, HNX2, r7, rz5, hb5⟩
     case measure => have := HIJ.out; simp [intOf] <;> omega
    ·have hje : j = h := by omega
     have hil : ¬ i < t := by have := HIJ.out; have := HT.out; omega
     have hdi : decide ((i : Int) < (t : Int)) = false := decide_eq_false (by omega)
     have hiI : (t : Int) ≤ (i : Int) := by omega
     have HG3 : Hid (Xs h Z C1 C2 F (b + 1) 0 G2) := by
      have h1 := HG2.out
      rw [hje] at h1
      exact h1.next HH.out
     clear hje
     go_wp2
     go_roundw
     case rel => exact ⟨b + 1, _, by omega, by go_num, HG3, ra2, rz2, hby⟩
     case measure => simp [intOf] <;> omega
  ·have hie : b = n := by omega
   have hdb : decide ((b : Int) < (n : Int)) = false := decide_eq_false (by omega)
   have hbI : (n : Int) ≤ (b : Int) := by omega
   have HE : Hid (gI G = gI (fzF (xg h Z C1 C2 F))) := by
    have h1 := HG.out
    rw [hie, HN.out] at h1
    exact h1.done HH.out
   rw [HE.out] at ra1
   clear hie
   go_wp2_with (first | refine wpList_load_row rfl 58 _ rfl rfl ra1 _ Tryz.underlying58 rfl (poInfoA _) ?_ | (refine wpList_store_row rfl 58 _ _ rfl (gI (fzF (xg h Z C1 C2 F))) rfl rfl rz1 (by rw [gI_length, gI_length]) (poInfoA _) ?_; intro w7 r7 hw7))
   refine bodyPost_row (k := .i64) rfl rfl rfl r7 Tryz.underlying58 rfl (poInfoA _) ?_
   exact ⟨rfl, hw7.below _ _ (by omega) hbx⟩
set_option maxRecDepth 100000 in
set_option maxHeartbeats 2000000 in
theorem ncleaned_any (A : Array Value) (F : Nat → Int) (hF : Po F) (hA : A = ((gI F).map (Value.int .i64)).toArray) (w : World) :
  Calls Tryz.prog 82 #[.agg A] w fun e w' => e = .returned (poV (rF F)) ∧ Below w.heap.size w w' := by
 have HF : Hid (Po F) := hF
 have hmf : ∀ (fn : Fn) (first cap : Array Value) (w : World), (Instr.makeFunc fn first cap).run Tryz.prog w = .ok (.func fn first cap) w := fun _ _ _ _ => rfl
 clear hF
 go_enter Tryz.func82, Tryz.ntmps82
 go_wp2_with (refine wpList_box_row (k := .i64) rfl 58 _ rfl (gI F) (by rw [← hA]; rfl) (gI_ne _) (poMax _) ?_)
 intro w1 ra b1 s1
 rw [gI_length] at ra
 have hbw := b1
 have n1 : w.heap.size < w1.heap.size := by have := s1.out; omega
 clear b1 s1 hA
 go_wp2_with (refine wpList_alloc_row (k := .i64) rfl 58 rfl (gI fun _ => 0) (alloc_poA _) (gI_ne _) (poMax _) ?_)
 intro w2 rz b2 s2
 rw [gI_length] at rz
 replace ra := ra.kept b2
 replace hbw := stepB hbw b2
 clear b2 s2
 go_wp2_with fail
 refine (placed_any 127 _ (rF F) _ (enters_by Tryz.func127 (by kernel_rfl) rfl) fun i hi W hW => by rw [app1]; exact cclean_any F HF.out _ i hi W (ra.kept hW)).mono ?_
 rintro e w3 ⟨rfl, b3⟩
 replace rz := rz.kept b3
 replace hbw := stepB hbw b3
 clear b3 ra
 go_wp2_with (refine wpList_store_row rfl 58 _ _ rfl (gI (fzF (rF F))) rfl rfl rz (by rw [gI_length, gI_length]) (poInfoA _) ?_; intro w7 r7 hw7)
 refine bodyPost_row (k := .i64) rfl rfl rfl r7 Tryz.underlying58 rfl (poInfoA _) ?_
 exact ⟨rfl, hw7.below _ _ (by omega) hbw⟩

set_option maxRecDepth 100000 in
set_option maxHeartbeats 2000000 in
theorem nplus_any (A B : Array Value) (F G : Nat → Int) (hF : Po F) (hG : Po G) (hA : A = ((gI F).map (Value.int .i64)).toArray) (hB : B = ((gI G).map (Value.int .i64)).toArray) (w : World) :
  Calls Tryz.prog 92 #[.agg A, .agg B] w fun e w' => e = .returned (poV (fun k => rF F k + rF G k)) ∧ Below w.heap.size w w' := by
 have HF : Hid (Po F) := hF
 have HG : Hid (Po G) := hG
 have hmf : ∀ (fn : Fn) (first cap : Array Value) (w : World), (Instr.makeFunc fn first cap).run Tryz.prog w = .ok (.func fn first cap) w := fun _ _ _ _ => rfl
 clear hF hG
 go_enter Tryz.func92, Tryz.ntmps92
 go_wp2_with (refine wpList_box_row (k := .i64) rfl 58 _ rfl (gI F) (by rw [← hA]; rfl) (gI_ne _) (poMax _) ?_)
 intro w1 ra b1 s1
 rw [gI_length] at ra
 have hbw := b1
 have n1 : w.heap.size < w1.heap.size := by have := s1.out; omega
 clear b1 s1 hA
 go_wp2_with (refine wpList_box_row (k := .i64) rfl 58 _ rfl (gI G) (by rw [← hB]; rfl) (gI_ne _) (poMax _) ?_)
 intro w2 rb b2 s2
 rw [gI_length] at rb
 replace ra := ra.kept b2
 replace hbw := stepB hbw b2
 have n2 : w1.heap.size < w2.heap.size := by have := s2.out; omega
 clear b2 s2 hB
 go_wp2_with (refine wpList_alloc_row (k := .i64) rfl 58 rfl (gI fun _ => 0) (alloc_poA _) (gI_ne _) (poMax _) ?_)
 intro w3 rz b3 s3
 rw [gI_length] at rz
 replace ra := ra.kept b3
 replace rb := rb.kept b3
 replace hbw := stepB hbw b3
 clear b3 s3
 go_wp2_with fail
 refine (placed_any 131 _ (fun k => rF F k + rF G k) _ (enters_by Tryz.func131 (by kernel_rfl) rfl) fun i hi W hW => by rw [app2]; exact cplus_any F G HF.out HG.out _ _ i hi W (ra.kept hW) (rb.kept hW)).mono ?_
 rintro e w4 ⟨rfl, b4⟩
 replace rz := rz.kept b4
 replace hbw := stepB hbw b4
 clear b4 ra rb
 go_wp2_with (refine wpList_store_row rfl 58 _ _ rfl (gI (fzF (fun k => rF F k + rF G k))) rfl rfl rz (by rw [gI_length, gI_length]) (poInfoA _) ?_; intro w7 r7 hw7)
 refine bodyPost_row (k := .i64) rfl rfl rfl r7 Tryz.underlying58 rfl (poInfoA _) ?_
 exact ⟨rfl, hw7.below _ _ (by omega) hbw⟩

set_option maxRecDepth 100000 in
set_option maxHeartbeats 2000000 in
theorem nminus_any (A B : Array Value) (F G : Nat → Int) (hF : Po F) (hG : Po G) (hA : A = ((gI F).map (Value.int .i64)).toArray) (hB : B = ((gI G).map (Value.int .i64)).toArray) (w : World) :
  Calls Tryz.prog 70 #[.agg A, .agg B] w fun e w' => e = .returned (poV (fun k => rF F k - rF G k)) ∧ Below w.heap.size w w' := by
 have HF : Hid (Po F) := hF
 have HG : Hid (Po G) := hG
 have hmf : ∀ (fn : Fn) (first cap : Array Value) (w : World), (Instr.makeFunc fn first cap).run Tryz.prog w = .ok (.func fn first cap) w := fun _ _ _ _ => rfl
 clear hF hG
 go_enter Tryz.func70, Tryz.ntmps70
 go_wp2_with (refine wpList_box_row (k := .i64) rfl 58 _ rfl (gI F) (by rw [← hA]; rfl) (gI_ne _) (poMax _) ?_)
 intro w1 ra b1 s1
 rw [gI_length] at ra
 have hbw := b1
 have n1 : w.heap.size < w1.heap.size := by have := s1.out; omega
 clear b1 s1 hA
 go_wp2_with (refine wpList_box_row (k := .i64) rfl 58 _ rfl (gI G) (by rw [← hB]; rfl) (gI_ne _) (poMax _) ?_)
 intro w2 rb b2 s2
 rw [gI_length] at rb
 replace ra := ra.kept b2
 replace hbw := stepB hbw b2
 have n2 : w1.heap.size < w2.heap.size := by have := s2.out; omega
 clear b2 s2 hB
 go_wp2_with (refine wpList_alloc_row (k := .i64) rfl 58 rfl (gI fun _ => 0) (alloc_poA _) (gI_ne _) (poMax _) ?_)
 intro w3 rz b3 s3
 rw [gI_length] at rz
 replace ra := ra.kept b3
 replace rb := rb.kept b3
 replace hbw := stepB hbw b3
 clear b3 s3
 go_wp2_with fail
 refine (placed_any 117 _ (fun k => rF F k - rF G k) _ (enters_by Tryz.func117 (by kernel_rfl) rfl) fun i hi W hW => by rw [app2]; exact cminus_any F G HF.out HG.out _ _ i hi W (ra.kept hW) (rb.kept hW)).mono ?_
 rintro e w4 ⟨rfl, b4⟩
 replace rz := rz.kept b4
 replace hbw := stepB hbw b4
 clear b4 ra rb
 go_wp2_with (refine wpList_store_row rfl 58 _ _ rfl (gI (fzF (fun k => rF F k - rF G k))) rfl rfl rz (by rw [gI_length, gI_length]) (poInfoA _) ?_; intro w7 r7 hw7)
 refine bodyPost_row (k := .i64) rfl rfl rfl r7 Tryz.underlying58 rfl (poInfoA _) ?_
 exact ⟨rfl, hw7.below _ _ (by omega) hbw⟩
theorem alloc_int11 (w : World) : (Instr.alloc 3 true (.tuple #[])).run Tryz.prog w = .ok (.pointer (some ⟨w.heap.size, 0, none⟩)) (w.alloc (.cells (([0] : List Int).map (Value.int .i64)).toArray 3)) := by kernel_rfl
theorem fw_facts (l : Nat) (hl : l < 7) : ∃ h m h2 : Nat, h = 2 ^ (7 - l) ∧ m = 2 ^ l ∧ h2 = 2 ^ (7 - (l + 1)) ∧ Int.tdiv 128 (h : Int) = (m : Int) ∧ IntKind.i64.wrap (m : Int) = (m : Int) ∧ ((h : Int) == 0) = false ∧ Int.tdiv (h : Int) 2 = (h2 : Int) ∧ IntKind.i64.wrap (h2 : Int) = (h2 : Int) ∧ decide (1 < (h : Int)) = true ∧ (1 : Int) < h ∧ h2 < h ∧ 256 / (2 * h) = m ∧ 2 * m ≤ 128 ∧ Hf h := by
 refine ⟨_, _, _, rfl, rfl, rfl, ?_⟩
 unfold Hf
 have : l = 0 ∨ l = 1 ∨ l = 2 ∨ l = 3 ∨ l = 4 ∨ l = 5 ∨ l = 6 := by omega
 rcases this with rfl | rfl | rfl | rfl | rfl | rfl | rfl <;> decide

set_option maxHeartbeats 1000000 in
theorem cfwd_any (m b g : Nat) (h : m + b < 128) (w : World) (hT : PwT w) (r : RowAt .i64 3 g 1 [(m : Int)] w) :
  Calls Tryz.prog 84 #[.int .i64 (b : Int), .pointer (some ⟨g, 0, none⟩)] w fun e w' => e = .returned (.int .i64 (((zt (m + b)).val : Nat) : Int)) ∧ Below w.heap.size w w' := by
 have hc := r.cell (j := 0) (by simp)
 simp only [List.getD_cons_zero] at hc
 obtain ⟨k, hk⟩ : ∃ k : Nat, k = m + b := ⟨_, rfl⟩
 have x1 : IntKind.i64.wrap ((m : Int) + (b : Int)) = (k : Int) := by rw [IntWalk.i64_in _ (by omega)]; omega
 have HK : Hid (k = m + b) := hk
 have HT : Hid (PwT w) := hT
 have HL : Hid (k < 128) := by show _ < _; omega
 clear hk r hT h
 go_enter Tryz.func84, Tryz.ntmps84
 go_wp2_with fail
 refine (zzetaF k HL.out _ HT.out).mono ?_
 rintro e w1 ⟨rfl, rfl⟩
 go_wp2
 go_ret
 exact ⟨retZ (by rw [HK.out]), Below.refl _ _⟩

set_option maxRecDepth 100000 in
set_option maxHeartbeats 4000000 in
theorem nforward_any (A : Array Value) (F : Nat → Int) (hF : Po F) (hA : A = ((gI F).map (Value.int .i64)).toArray) (w : World) (hT : PwT w) :
  Calls Tryz.prog 43 #[.agg A] w fun e w' => e = .returned (poV (fwd (rF F))) ∧ Below w.heap.size w w' := by
 have HF : Hid (Po F) := hF
 have HT : Hid (PwT w) := hT
 have hmf : ∀ (fn : Fn) (first cap : Array Value) (w : World), (Instr.makeFunc fn first cap).run Tryz.prog w = .ok (.func fn first cap) w := fun _ _ _ _ => rfl
 clear hF hT
 go_enter Tryz.func43, Tryz.ntmps43
 go_wp2_with (refine wpList_box_row (k := .i64) rfl 58 _ rfl (gI F) (by rw [← hA]; rfl) (gI_ne _) (poMax _) ?_)
 intro w1 ra b1 s1
 rw [gI_length] at ra
 have hbw := b1
 have n1 : w.heap.size < w1.heap.size := by have := s1.out; omega
 clear b1 s1 hA
 go_wp2_with (refine wpList_alloc_row (k := .i64) rfl 58 rfl (gI fun _ => 0) (alloc_poA _) (gI_ne _) (poMax _) ?_)
 intro w2 rz b2 s2
 rw [gI_length] at rz
 replace ra := ra.kept b2
 replace hbw := stepB hbw b2
 have n2 : w1.heap.size < w2.heap.size := by have := s2.out; omega
 clear b2 s2
 go_wp2_with (refine wpList_load_row rfl 58 _ rfl rfl ra _ Tryz.underlying58 rfl (poInfoA _) ?_)
 refine (ncleaned_any _ F HF.out rfl _).mono ?_
 rintro e w3 ⟨rfl, b3⟩
 replace rz := rz.kept b3
 replace hbw := stepB hbw b3
 have n3 := b3.size
 clear b3 ra
 obtain ⟨f, hf⟩ : ∃ f : Nat → FZ, f = rF F := ⟨_, rfl⟩
 rw [← hf]
 have HFF : Hid (f = rF F) := hf
 clear hf
 go_wp2_with (refine wpList_alloc_row (k := .i64) rfl 58 rfl (gI fun _ => 0) (alloc_poA _) (gI_ne _) (poMax _) ?_)
 intro w4 ro b4 s4
 rw [gI_length] at ro
 replace rz := rz.kept b4
 replace hbw := stepB hbw b4
 have n4 : w3.heap.size < w4.heap.size := by have := s4.out; omega
 clear b4 s4
 go_wp2_with (refine wpList_store_row rfl 58 _ _ rfl (gI (fzF f)) rfl rfl ro (by rw [gI_length, gI_length]) (poInfoA _) ?_)
 intro w5 r5 hw5
 replace rz := rz.wrote hw5 (by omega)
 replace hbw := hw5.below _ _ (by omega) hbw
 rw [show gI (fzF f) = gI (fzF (stg f 0)) from fz_congr fun k hk => (stg_first f k hk).symm] at r5
 have hlt3 : w3.heap.size ≠ w1.heap.size ∧ w.heap.size ≤ w3.heap.size ∧ w.heap.size ≤ w1.heap.size := by omega
 have HNE : Hid _ := hlt3
 clear hw5 ro n1 n2 n3 n4 hlt3
 go_wp2
 go_loopw [4] (fun hv wx => ∃ (l h : Nat), l ≤ 7 ∧ Hid (h = 2 ^ (7 - l)) ∧ hv = .int .i64 (h : Int) ∧ RowAt .i64 58 w3.heap.size 256 (gI (fzF (stg f l))) wx ∧ RowAt .i64 58 w1.heap.size 256 (gI fun _ => 0) wx ∧ Below w.heap.size w wx) (fun hv _ => (intOf hv).toNat)
 case atStart => exact ⟨0, 128, by omega, (by show _ = _; rfl), rfl, r5, rz, hbw⟩
 case round =>
  obtain ⟨l, h, hl, HHL, rfl, ro, rx, hbx⟩ := hrel
  clear r5 rz hbw
  by_cases hlt : l < 7
  ·obtain ⟨h', m, h2, e1, e2, e3, x1, x2, x3, x4, x5, x6, x7, x8, x9, x10, x11⟩ := fw_facts l hlt
   have he : h' = h := by rw [e1]; exact HHL.out.symm
   subst he
   have HM : Hid (m = 2 ^ l) := e2
   have HH2 : Hid (h2 = 2 ^ (7 - (l + 1))) := e3
   have H9 : Hid (256 / (2 * h') = m) := x9
   have H10 : Hid (2 * m ≤ 128) := x10
   have H11 : Hid (Hf h') := x11
   clear e1 e2 e3 x9 x10 x11
   have no := ro.lt
   have nx := rx.lt
   go_wp2_with (refine wpList_alloc_row (k := .i64) rfl 3 rfl [0] (alloc_int11 _) (by decide) (by decide) ?_)
   intro w6 ri b6 s6
   replace ro := ro.kept b6
   replace rx := rx.kept b6
   have hsz := hbx.size
   replace hbx := stepB hbx b6
   have n6 : wr.heap.size < w6.heap.size := by have := s6.out; omega
   clear b6 s6
   go_wp2_with (refine wpList_store_int rfl _ _ rfl rfl (m : Int) rfl ri (by decide) ?_)
   intro w7 ri7 hw7
   replace ri7 : RowAt .i64 3 wr.heap.size 1 [(m : Int)] w7 := ri7
   replace ro := ro.wrote hw7 (by omega)
   replace rx := rx.wrote hw7 (by omega)
   replace hbx := hw7.below _ _ (by omega) hbx
   have hsm : w.heap.size ≤ w3.heap.size := HNE.out.2.1
   have hne : w1.heap.size ≠ w3.heap.size := fun e => HNE.out.1 e.symm
   have HS1 : Hid (w.heap.size ≤ w3.heap.size ∧ w1.heap.size ≠ w3.heap.size) := ⟨hsm, hne⟩
   clear hw7 ri n6 no nx hsz hsm hne
   go_wp2_with (refine wpList_load_row rfl 58 _ rfl rfl ro _ Tryz.underlying58 rfl (poInfoA _) ?_)
   refine (crossed_any 84 86 _ _ (stg f l) rfl h' H11.out (fun b => zt (m + b)) sp1 sp2 _ (enters_by Tryz.func84 (by kernel_rfl) rfl) (enters_by Tryz.func86 (by kernel_rfl) rfl)
    (fun b hb W hW => by rw [app1]; exact cfwd_any m b _ (by have := H9.out; have := H10.out; omega) W ((HT.out.kept hbx).kept hW) (ri7.kept hW)) (fun z a b W => split_any z a b W)).mono ?_
   rintro e w8 ⟨rfl, b8⟩
   replace ro := ro.kept b8
   replace rx := rx.kept b8
   replace hbx := stepB hbx b8
   clear b8 ri7
   go_wp2_with (refine wpList_store_row rfl 58 _ _ rfl (gI (fzF (xg h' (fun b => zt (m + b)) sp1 sp2 (stg f l)))) rfl rfl ro (by rw [gI_length, gI_length]) (poInfoA _) ?_)
   intro w9 r9 hw9
   replace rx := rx.wrote hw9 HS1.out.2
   replace hbx := hw9.below _ _ HS1.out.1 hbx
   have HX : Hid (gI (fzF (xg h' (fun b => zt (m + b)) sp1 sp2 (stg f l))) = gI (fzF (stg f (l + 1)))) := by
    show _ = _
    rw [HHL.out, HM.out]
    exact fz_congr fun k hk => xg_fwd f l k hlt hk
   rw [HX.out] at r9
   clear hw9 ro HX
   go_wp2
   go_roundw
   case rel => exact ⟨l + 1, h2, by omega, HH2, by go_num, r9, rx, hbx⟩
   case measure => simp [intOf] <;> omega
  ·have hl7 : l = 7 := by omega
   have hh1 : h = 1 := by have := HHL.out; rw [hl7] at this; exact this
   have hd : decide (1 < (h : Int)) = false := by rw [hh1]; decide
   have hdI : (h : Int) ≤ 1 := by omega
   have HE : Hid (gI (fzF (stg f l)) = gI (fzF (fwd f))) := by
    show _ = _
    rw [hl7]
    exact fz_congr fun k hk => stg_last f k hk
   rw [HE.out] at ro
   clear hl7 hh1
   go_wp2_with (first | refine wpList_load_row rfl 58 _ rfl rfl ro _ Tryz.underlying58 rfl (poInfoA _) ?_ | (refine wpList_store_row rfl 58 _ _ rfl (gI (fzF (fwd f))) rfl rfl rx (by rw [gI_length, gI_length]) (poInfoA _) ?_; intro w7 r7 hw7))
   refine bodyPost_row (k := .i64) rfl rfl rfl r7 Tryz.underlying58 rfl (poInfoA _) ?_
   exact ⟨by rw [HFF.out], hw7.below _ _ HNE.out.2.2 hbx⟩
theorem iv_facts (u : Nat) (hu : u < 7) : ∃ h q m h2 : Nat, h = 2 ^ (u + 1) ∧ q = 2 ^ (7 - u) ∧ m = 2 ^ (7 - u) - 1 ∧ h2 = 2 ^ (u + 1 + 1) ∧ Int.tdiv 256 (h : Int) = (q : Int) ∧ IntKind.i64.wrap (q : Int) = (q : Int) ∧ IntKind.i64.wrap ((q : Int) - 1) = (m : Int) ∧ ((h : Int) == 0) = false ∧ IntKind.i64.wrap ((h : Int) * 2) = (h2 : Int) ∧ decide ((h : Int) < 256) = true ∧ (h : Int) < 256 ∧ h < h2 ∧ 256 / (2 * h) ≤ m ∧ m < 128 ∧ Hf h ∧ ¬ h = 0 ∧ (1 : Int) < (h : Int) := by
 refine ⟨_, _, _, _, rfl, rfl, rfl, rfl, ?_⟩
 unfold Hf
 have : u = 0 ∨ u = 1 ∨ u = 2 ∨ u = 3 ∨ u = 4 ∨ u = 5 ∨ u = 6 := by omega
 rcases this with rfl | rfl | rfl | rfl | rfl | rfl | rfl <;> decide
def bkF (f : Nat → FZ) (u p : Nat) : FZ := pz 2 u * stg f (7 - u) p
theorem bkF_start (g : Nat → FZ) (p : Nat) (hp : p < 256) : bkF (inw g) 0 p = g p := by
 show pz 2 0 * stg (inw g) 7 p = g p
 rw [stg_last _ _ hp, fwd_inw g p hp]
 show (1 : FZ) * g p = g p
 grind -lia
theorem bkF_step (f : Nat → FZ) (u p : Nat) (hu : u < 7) (hp : p < 256) : xg (2 ^ (u + 1)) (fun b => zt (2 ^ (7 - u) - 1 - b)) jn1 jn2 (bkF f u) p = bkF f (u + 1) p := by
 have h := xg_inv f (pz 2 u) (6 - u) p (by omega) hp
 rw [show 7 - (6 - u) = u + 1 by omega, show 6 - u + 1 = 7 - u by omega] at h
 show xg (2 ^ (u + 1)) (fun b => zt (2 ^ (7 - u) - 1 - b)) jn1 jn2 (fun p => pz 2 u * stg f (7 - u) p) p = pz 2 (u + 1) * stg f (7 - (u + 1)) p
 rw [h, show 7 - (u + 1) = 6 - u by omega, pz_succ]
 grind -lia
theorem bkF_end (g : Nat → FZ) (p : Nat) (hp : p < 256) : 3303 * bkF (inw g) 7 p = inw g p := by
 have h := inv_end g p hp
 rw [show (128 : FZ) = pz 2 7 by decide] at h
 exact h

set_option maxHeartbeats 1000000 in
theorem cinv_any (m b g : Nat) (h : b ≤ m) (hm : m < 128) (w : World) (hT : PwT w) (r : RowAt .i64 3 g 1 [(m : Int)] w) :
  Calls Tryz.prog 119 #[.int .i64 (b : Int), .pointer (some ⟨g, 0, none⟩)] w fun e w' => e = .returned (.int .i64 (((zt (m - b)).val : Nat) : Int)) ∧ Below w.heap.size w w' := by
 have hc := r.cell (j := 0) (by simp)
 simp only [List.getD_cons_zero] at hc
 obtain ⟨k, hk⟩ : ∃ k : Nat, k = m - b := ⟨_, rfl⟩
 have x1 : IntKind.i64.wrap ((m : Int) - (b : Int)) = (k : Int) := by rw [IntWalk.i64_in _ (by omega)]; omega
 have HK : Hid (k = m - b) := hk
 have HT : Hid (PwT w) := hT
 have HL : Hid (k < 128) := by show _ < _; omega
 clear hk r hT h hm
 go_enter Tryz.func119, Tryz.ntmps119
 go_wp2_with fail
 refine (zzetaF k HL.out _ HT.out).mono ?_
 rintro e w1 ⟨rfl, rfl⟩
 go_wp2
 go_ret
 exact ⟨retZ (by rw [HK.out]), Below.refl _ _⟩
set_option maxHeartbeats 1000000 in
theorem cshare_any (f : Nat → FZ) (g : Nat) (i : Nat) (hi : i < 256) (w : World) (r : RowAt .i64 58 g 256 (gI (fzF f)) w) :
  Calls Tryz.prog 121 #[.int .i64 (i : Int), .pointer (some ⟨g, 0, none⟩)] w fun e w' => e = .returned (.int .i64 (((3303 * f i).val : Nat) : Int)) ∧ Below w.heap.size w w' := by
 have hc := r.cell (j := i) (by rw [gI_length]; exact hi)
 rw [gI_get _ hi] at hc
 unfold fzF at hc
 have hiI : (i : Int) < 256 := by omega
 have HE : Hid (ni 3303 * ni (((f i).val : Nat) : Int) = 3303 * f i) := by show _ = _; rw [ni_fz]; rfl
 clear r
 go_enter Tryz.func121, Tryz.ntmps121
 go_wp2_with fail
 refine (zmulF 3303 _ ⟨by omega, by omega⟩ (in64_fz (f i)) _).mono ?_
 rintro e w1 ⟨rfl, rfl⟩
 go_wp2
 go_ret
 exact ⟨retZ (by rw [HE.out]), Below.refl _ _⟩

set_option maxRecDepth 100000 in
set_option maxHeartbeats 4000000 in
theorem ninverse_any (A : Array Value) (F : Nat → Int) (hF : Po F) (hA : A = ((gI F).map (Value.int .i64)).toArray) (w : World) (hT : PwT w) :
  Calls Tryz.prog 71 #[.agg A] w fun e w' => e = .returned (poV (inw (rF F))) ∧ Below w.heap.size w w' := by
 have HF : Hid (Po F) := hF
 have HT : Hid (PwT w) := hT
 have hmf : ∀ (fn : Fn) (first cap : Array Value) (w : World), (Instr.makeFunc fn first cap).run Tryz.prog w = .ok (.func fn first cap) w := fun _ _ _ _ => rfl
 clear hF hT
 go_enter Tryz.func71, Tryz.ntmps71
 go_wp2_with (refine wpList_box_row (k := .i64) rfl 58 _ rfl (gI F) (by rw [← hA]; rfl) (gI_ne _) (poMax _) ?_)
 intro w1 ra b1 s1
 rw [gI_length] at ra
 have hbw := b1
 have n1 : w.heap.size < w1.heap.size := by have := s1.out; omega
 clear b1 s1 hA
 go_wp2_with (refine wpList_alloc_row (k := .i64) rfl 58 rfl (gI fun _ => 0) (alloc_poA _) (gI_ne _) (poMax _) ?_)
 intro w2 rz b2 s2
 rw [gI_length] at rz
 replace ra := ra.kept b2
 replace hbw := stepB hbw b2
 have n2 : w1.heap.size < w2.heap.size := by have := s2.out; omega
 clear b2 s2
 go_wp2_with (refine wpList_load_row rfl 58 _ rfl rfl ra _ Tryz.underlying58 rfl (poInfoA _) ?_)
 refine (ncleaned_any _ F HF.out rfl _).mono ?_
 rintro e w3 ⟨rfl, b3⟩
 replace rz := rz.kept b3
 replace hbw := stepB hbw b3
 have n3 := b3.size
 clear b3 ra
 obtain ⟨f, hf⟩ : ∃ f : Nat → FZ, f = rF F := ⟨_, rfl⟩
 rw [← hf]
 have HFF : Hid (f = rF F) := hf
 clear hf
 go_wp2_with (refine wpList_alloc_row (k := .i64) rfl 58 rfl (gI fun _ => 0) (alloc_poA _) (gI_ne _) (poMax _) ?_)
 intro w4 ro b4 s4
 rw [gI_length] at ro
 replace rz := rz.kept b4
 replace hbw := stepB hbw b4
 have n4 : w3.heap.size < w4.heap.size := by have := s4.out; omega
 clear b4 s4
 go_wp2_with (refine wpList_store_row rfl 58 _ _ rfl (gI (fzF f)) rfl rfl ro (by rw [gI_length, gI_length]) (poInfoA _) ?_)
 intro w5 r5 hw5
 replace rz := rz.wrote hw5 (by omega)
 replace hbw := hw5.below _ _ (by omega) hbw
 rw [show gI (fzF f) = gI (fzF (bkF (inw f) 0)) from fz_congr fun k hk => (bkF_start f k hk).symm] at r5
 have hlt3 : w3.heap.size ≠ w1.heap.size ∧ w.heap.size ≤ w3.heap.size ∧ w.heap.size ≤ w1.heap.size := by omega
 have HNE : Hid _ := hlt3
 clear hw5 ro n1 n2 n3 n4 hlt3
 go_wp2
 go_loopw [4] (fun hv wx => ∃ (u h : Nat), u ≤ 7 ∧ Hid (h = 2 ^ (u + 1)) ∧ hv = .int .i64 (h : Int) ∧ RowAt .i64 58 w3.heap.size 256 (gI (fzF (bkF (inw f) u))) wx ∧ RowAt .i64 58 w1.heap.size 256 (gI fun _ => 0) wx ∧ Below w.heap.size w wx) (fun hv _ => 256 - (intOf hv).toNat)
 case atStart => exact ⟨0, 2, by omega, (by show _ = _; rfl), rfl, r5, rz, hbw⟩
 case round =>
  obtain ⟨u, h, hu, HHL, rfl, ro, rx, hbx⟩ := hrel
  clear r5 rz hbw
  by_cases hlt : u < 7
  ·obtain ⟨h', q, m, h2, e1, e0, e2, e3, x1, x2, x2b, x3, x4, x6, x7, x8, x9, x10, x11, x12, x13⟩ := iv_facts u hlt
   have he : h' = h := by rw [e1]; exact HHL.out.symm
   subst he
   have HM : Hid (m = 2 ^ (7 - u) - 1) := e2
   have HH2 : Hid (h2 = 2 ^ (u + 1 + 1)) := e3
   have H9 : Hid (256 / (2 * h') ≤ m) := x9
   have H10 : Hid (m < 128) := x10
   have H11 : Hid (Hf h') := x11
   clear e0 e1 e2 e3 x9 x10 x11
   have no := ro.lt
   have nx := rx.lt
   go_wp2_with (refine wpList_alloc_row (k := .i64) rfl 3 rfl [0] (alloc_int11 _) (by decide) (by decide) ?_)
   intro w6 ri b6 s6
   replace ro := ro.kept b6
   replace rx := rx.kept b6
   have hsz := hbx.size
   replace hbx := stepB hbx b6
   have n6 : wr.heap.size < w6.heap.size := by have := s6.out; omega
   clear b6 s6
   go_wp2_with (refine wpList_store_int rfl _ _ rfl rfl (m : Int) rfl ri (by decide) ?_)
   intro w7 ri7 hw7
   replace ri7 : RowAt .i64 3 wr.heap.size 1 [(m : Int)] w7 := ri7
   replace ro := ro.wrote hw7 (by omega)
   replace rx := rx.wrote hw7 (by omega)
   replace hbx := hw7.below _ _ (by omega) hbx
   have hsm : w.heap.size ≤ w3.heap.size := HNE.out.2.1
   have hne : w1.heap.size ≠ w3.heap.size := fun e => HNE.out.1 e.symm
   have HS1 : Hid (w.heap.size ≤ w3.heap.size ∧ w1.heap.size ≠ w3.heap.size) := ⟨hsm, hne⟩
   clear hw7 ri n6 no nx hsz hsm hne
   go_wp2_with (refine wpList_load_row rfl 58 _ rfl rfl ro _ Tryz.underlying58 rfl (poInfoA _) ?_)
   refine (crossed_any 119 120 _ _ (bkF (inw f) u) rfl h' H11.out (fun b => zt (m - b)) jn1 jn2 _ (enters_by Tryz.func119 (by kernel_rfl) rfl) (enters_by Tryz.func120 (by kernel_rfl) rfl)
    (fun b hb W hW => by rw [app1]; exact cinv_any m b _ (by have := H9.out; omega) H10.out W ((HT.out.kept hbx).kept hW) (ri7.kept hW)) (fun z a b W => join_two z a b W)).mono ?_
   rintro e w8 ⟨rfl, b8⟩
   replace ro := ro.kept b8
   replace rx := rx.kept b8
   replace hbx := stepB hbx b8
   clear b8 ri7
   go_wp2_with (refine wpList_store_row rfl 58 _ _ rfl (gI (fzF (xg h' (fun b => zt (m - b)) jn1 jn2 (bkF (inw f) u)))) rfl rfl ro (by rw [gI_length, gI_length]) (poInfoA _) ?_)
   intro w9 r9 hw9
   replace rx := rx.wrote hw9 HS1.out.2
   replace hbx := hw9.below _ _ HS1.out.1 hbx
   have HX : Hid (gI (fzF (xg h' (fun b => zt (m - b)) jn1 jn2 (bkF (inw f) u))) = gI (fzF (bkF (inw f) (u + 1)))) := by
    show _ = _
    rw [HHL.out, HM.out]
    exact fz_congr fun k hk => bkF_step (inw f) u k hlt hk
   rw [HX.out] at r9
   clear hw9 ro HX
   go_wp2
   go_roundw
   case rel => exact ⟨u + 1, h2, by omega, HH2, by go_num, r9, rx, hbx⟩
   case measure => simp [intOf] <;> omega
  ·have hl7 : u = 7 := by omega
   have hh1 : h = 256 := by have := HHL.out; rw [hl7] at this; exact this
   have hd : decide ((h : Int) < 256) = false := by rw [hh1]; decide
   have hdI : (256 : Int) ≤ (h : Int) := by omega
   rw [hl7] at ro
   clear hl7 hh1
   go_wp2_with fail
   refine (placed_any 121 _ (fun k => 3303 * bkF (inw f) 7 k) _ (enters_by Tryz.func121 (by kernel_rfl) rfl) fun i hi W hW => by rw [app1]; exact cshare_any (bkF (inw f) 7) _ i hi W (ro.kept hW)).mono ?_
   rintro e w6 ⟨rfl, b6⟩
   replace rx := rx.kept b6
   replace hbx := stepB hbx b6
   clear b6 ro
   have HE : Hid (gI (fzF fun k => 3303 * bkF (inw f) 7 k) = gI (fzF (inw f))) := by
    show _ = _
    exact fz_congr fun k hk => bkF_end f k hk
   have HP : Hid (poV (fun k => 3303 * bkF (inw f) 7 k) = poV (inw f)) := by
    show Value.agg _ = Value.agg _
    rw [HE.out]
   rw [HP.out]
   go_wp2_with (refine wpList_store_row rfl 58 _ _ rfl (gI (fzF (inw f))) rfl rfl rx (by rw [gI_length, gI_length]) (poInfoA _) ?_; intro w7 r7 hw7)
   refine bodyPost_row (k := .i64) rfl rfl rfl r7 Tryz.underlying58 rfl (poInfoA _) ?_
   exact ⟨by rw [HFF.out], hw7.below _ _ HNE.out.2.2 hbx⟩
theorem sq_zr : ∀ i : Fin 128, 17 * (zt i.val * zt i.val) = zr i.val := by decide +kernel
set_option maxHeartbeats 1000000 in
theorem square_any (i : Nat) (h : i < 128) (w : World) (hT : PwT w) :
  Calls Tryz.prog 148 #[.int .i64 (i : Int)] w fun e w' => e = .returned (.int .i64 (((zr i).val : Nat) : Int)) ∧ w' = w := by
 have H1 : Hid (ni (((zt i).val : Nat) : Int) * ni (((zt i).val : Nat) : Int) = zt i * zt i) := by show _ = _; rw [ni_fz]
 have H2 : Hid (ni 17 * ni (((zt i * zt i).val : Nat) : Int) = zr i) := by
  show _ = _
  rw [ni_fz, show ni 17 = 17 from rfl]
  exact sq_zr ⟨i, h⟩
 have HT : Hid (PwT w) := hT
 clear hT
 go_enter Tryz.func148, Tryz.ntmps148
 go_wp2_with fail
 refine (zzetaF i h _ HT.out).mono ?_
 rintro e w1 ⟨rfl, rfl⟩
 go_wp2_with fail
 refine (zmulF _ _ (in64_fz (zt i)) (in64_fz (zt i)) _).mono ?_
 rintro e w1 ⟨rfl, rfl⟩
 rw [H1.out]
 go_wp2_with fail
 refine (zmulF 17 _ ⟨by omega, by omega⟩ (in64_fz (zt i * zt i)) _).mono ?_
 rintro e w1 ⟨rfl, rfl⟩
 rw [H2.out]
 go_wp2
 go_ret
 exact ⟨rfl, rfl⟩
theorem and_not_all : allB (fun i => bits .andNot .i64 (i : Int) 1 == ((i - i % 2 : Nat) : Int)) 256 = true := by decide +kernel
theorem and_not (i : Nat) (h : i < 256) : bits .andNot .i64 (i : Int) 1 = ((i - i % 2 : Nat) : Int) := by
 have := allB_at and_not_all i h
 simpa using this

set_option maxRecDepth 100000 in
set_option maxHeartbeats 2000000 in
theorem ctimes_any (F G : Nat → Int) (hF : Po F) (hG : Po G) (g h : Nat) (i : Nat) (hi : i < 256) (w : World) (hT : PwT w) (r : RowAt .i64 58 g 256 (gI F) w) (s : RowAt .i64 58 h 256 (gI G) w) :
  Calls Tryz.prog 147 #[.int .i64 (i : Int), .pointer (some ⟨g, 0, none⟩), .pointer (some ⟨h, 0, none⟩)] w fun e w' => e = .returned (.int .i64 (((tm (rF F) (rF G) i).val : Nat) : Int)) ∧ Below w.heap.size w w' := by
 have hev := and_not i hi
 obtain ⟨v, hv⟩ : ∃ v : Nat, v = i - i % 2 := ⟨_, rfl⟩
 rw [← hv] at hev
 obtain ⟨u, hu⟩ : ∃ u : Nat, u = v + 1 := ⟨_, rfl⟩
 have hu6 : u < 256 := by omega
 have hv6 : v < 256 := by omega
 have hvI : (v : Int) < 256 := by omega
 have huI : (u : Int) < 256 := by omega
 have x1 : IntKind.i64.wrap ((v : Int) + 1) = (u : Int) := by rw [IntWalk.i64_in _ (by omega)]; omega
 have ha0 := r.cell (j := v) (by rw [gI_length]; exact hv6)
 have ha1 := r.cell (j := u) (by rw [gI_length]; exact hu6)
 have hb0 := s.cell (j := v) (by rw [gI_length]; exact hv6)
 have hb1 := s.cell (j := u) (by rw [gI_length]; exact hu6)
 rw [gI_get _ hv6] at ha0 hb0
 rw [gI_get _ hu6] at ha1 hb1
 have HFv : Hid _ := hF.in64 v
 have HFu : Hid _ := hF.in64 u
 have HGv : Hid _ := hG.in64 v
 have HGu : Hid _ := hG.in64 u
 have HT : Hid (PwT w) := hT
 have HU : Hid (u = v + 1) := hu
 have HV : Hid (v = i - i % 2) := hv
 clear r s hF hG hT hu hv
 go_enter Tryz.func147, Tryz.ntmps147
 go_wp2_with fail
 refine wpG_begin (by kernel_rfl) ?_
 refine wpG_t (i := 0) (oi := ⟨some 12, .move (.tmp 5), 3, "ntt.go:101", #[], none⟩) (v := ?_) ?_ ?_
 rotate_left
 ·intro W hW; go_simp <;> with_reducible rfl
 try simp only [Act.put, putA, putB, putC]
 refine wpG_t (i := 1) (oi := ⟨some 13, .indexAddr 58 (.tmp 1) (.tmp 12), 0, "ntt.go:101", #[⟨0, .data⟩], none⟩) (v := ?_) ?_ ?_
 rotate_left
 ·intro W hW; go_simp <;> with_reducible rfl
 try simp only [Act.put, putA, putB, putC]
 refine wpG_t (i := 2) (oi := ⟨some 14, .load 3 (.tmp 13), 3, "ntt.go:101", #[⟨1, .data⟩], none⟩) (v := ?_) ?_ ?_
 rotate_left
 ·intro W hW; have hcW := cellD11 ha0 hW; go_simp <;> with_reducible rfl
 try simp only [Act.put, putA, putB, putC]
 refine wpG_t (i := 3) (oi := ⟨some 15, .move (.tmp 5), 3, "ntt.go:101", #[⟨14, .gcOnly .lateStores⟩], none⟩) (v := ?_) ?_ ?_
 rotate_left
 ·intro W hW; go_simp <;> with_reducible rfl
 try simp only [Act.put, putA, putB, putC]
 refine wpG_t (i := 4) (oi := ⟨some 16, .binOp .add 3 (.tmp 15) (.const (.int .i64 1)) 3, 3, "ntt.go:101", #[⟨3, .data⟩, ⟨14, .gcOnly .lateStores⟩], none⟩) (v := ?_) ?_ ?_
 rotate_left
 ·intro W hW; go_simp <;> with_reducible rfl
 try simp only [Act.put, putA, putB, putC]
 refine wpG_t (i := 5) (oi := ⟨some 17, .indexAddr 58 (.tmp 1) (.tmp 16), 0, "ntt.go:101", #[⟨4, .data⟩, ⟨14, .gcOnly .lateStores⟩], none⟩) (v := ?_) ?_ ?_
 rotate_left
 ·intro W hW; go_simp <;> with_reducible rfl
 try simp only [Act.put, putA, putB, putC]
 refine wpG_t (i := 6) (oi := ⟨some 18, .load 3 (.tmp 17), 3, "ntt.go:101", #[⟨5, .data⟩, ⟨14, .gcOnly .lateStores⟩], none⟩) (v := ?_) ?_ ?_
 rotate_left
 ·intro W hW; have hcW := cellD11 ha1 hW; go_simp <;> with_reducible rfl
 try simp only [Act.put, putA, putB, putC]
 refine wpG_t (i := 7) (oi := ⟨some 19, .move (.tmp 5), 3, "ntt.go:101", #[⟨15, .gcOnly .lateStores⟩], none⟩) (v := ?_) ?_ ?_
 rotate_left
 ·intro W hW; go_simp <;> with_reducible rfl
 try simp only [Act.put, putA, putB, putC]
 refine wpG_t (i := 8) (oi := ⟨some 20, .indexAddr 58 (.tmp 2) (.tmp 19), 0, "ntt.go:101", #[⟨7, .data⟩, ⟨15, .gcOnly .lateStores⟩], none⟩) (v := ?_) ?_ ?_
 rotate_left
 ·intro W hW; go_simp <;> with_reducible rfl
 try simp only [Act.put, putA, putB, putC]
 refine wpG_t (i := 9) (oi := ⟨some 21, .load 3 (.tmp 20), 3, "ntt.go:101", #[⟨8, .data⟩, ⟨15, .gcOnly .lateStores⟩], none⟩) (v := ?_) ?_ ?_
 rotate_left
 ·intro W hW; have hcW := cellD11 hb0 hW; go_simp <;> with_reducible rfl
 try simp only [Act.put, putA, putB, putC]
 refine wpG_t (i := 10) (oi := ⟨some 22, .move (.tmp 5), 3, "ntt.go:101", #[⟨16, .gcOnly .lateStores⟩], none⟩) (v := ?_) ?_ ?_
 rotate_left
 ·intro W hW; go_simp <;> with_reducible rfl
 try simp only [Act.put, putA, putB, putC]
 refine wpG_t (i := 11) (oi := ⟨some 23, .binOp .add 3 (.tmp 22) (.const (.int .i64 1)) 3, 3, "ntt.go:101", #[⟨10, .data⟩, ⟨16, .gcOnly .lateStores⟩], none⟩) (v := ?_) ?_ ?_
 rotate_left
 ·intro W hW; go_simp <;> with_reducible rfl
 try simp only [Act.put, putA, putB, putC]
 refine wpG_t (i := 12) (oi := ⟨some 24, .indexAddr 58 (.tmp 2) (.tmp 23), 0, "ntt.go:101", #[⟨11, .data⟩, ⟨16, .gcOnly .lateStores⟩], none⟩) (v := ?_) ?_ ?_
 rotate_left
 ·intro W hW; go_simp <;> with_reducible rfl
 try simp only [Act.put, putA, putB, putC]
 refine wpG_t (i := 13) (oi := ⟨some 25, .load 3 (.tmp 24), 3, "ntt.go:101", #[⟨12, .data⟩, ⟨16, .gcOnly .lateStores⟩], none⟩) (v := ?_) ?_ ?_
 rotate_left
 ·intro W hW; have hcW := cellD11 hb1 hW; go_simp <;> with_reducible rfl
 try simp only [Act.put, putA, putB, putC]
 refine wpG_t (i := 14) (oi := ⟨some 6, .assign (.tmp 14), 3, "ntt.go:101", #[⟨2, .data⟩, ⟨0, .phase⟩, ⟨1, .phase⟩, ⟨2, .phase⟩, ⟨3, .textOnly .lateStores⟩, ⟨4, .textOnly .lateStores⟩, ⟨5, .textOnly .lateStores⟩, ⟨6, .textOnly .lateStores⟩, ⟨7, .textOnly .lateStores⟩, ⟨8, .textOnly .lateStores⟩, ⟨9, .textOnly .lateStores⟩, ⟨10, .textOnly .lateStores⟩, ⟨11, .textOnly .lateStores⟩, ⟨12, .textOnly .lateStores⟩, ⟨13, .textOnly .lateStores⟩], none⟩) (v := ?_) ?_ ?_
 rotate_left
 ·intro W hW; go_simp <;> with_reducible rfl
 try simp only [Act.put, putA, putB, putC]
 refine wpG_t (i := 15) (oi := ⟨some 7, .assign (.tmp 18), 3, "ntt.go:101", #[⟨6, .data⟩, ⟨14, .chain⟩, ⟨0, .phase⟩, ⟨1, .phase⟩, ⟨2, .phase⟩, ⟨3, .phase⟩, ⟨4, .phase⟩, ⟨5, .phase⟩, ⟨6, .phase⟩, ⟨7, .textOnly .lateStores⟩, ⟨8, .textOnly .lateStores⟩, ⟨9, .textOnly .lateStores⟩, ⟨10, .textOnly .lateStores⟩, ⟨11, .textOnly .lateStores⟩, ⟨12, .textOnly .lateStores⟩, ⟨13, .textOnly .lateStores⟩, ⟨14, .phase⟩], none⟩) (v := ?_) ?_ ?_
 rotate_left
 ·intro W hW; go_simp <;> with_reducible rfl
 try simp only [Act.put, putA, putB, putC]
 refine wpG_t (i := 16) (oi := ⟨some 8, .assign (.tmp 21), 3, "ntt.go:101", #[⟨9, .data⟩, ⟨15, .chain⟩, ⟨0, .phase⟩, ⟨1, .phase⟩, ⟨2, .phase⟩, ⟨3, .phase⟩, ⟨4, .phase⟩, ⟨5, .phase⟩, ⟨6, .phase⟩, ⟨7, .phase⟩, ⟨8, .phase⟩, ⟨9, .phase⟩, ⟨10, .textOnly .lateStores⟩, ⟨11, .textOnly .lateStores⟩, ⟨12, .textOnly .lateStores⟩, ⟨13, .textOnly .lateStores⟩, ⟨14, .phase⟩, ⟨15, .phase⟩], none⟩) (v := ?_) ?_ ?_
 rotate_left
 ·intro W hW; go_simp <;> with_reducible rfl
 try simp only [Act.put, putA, putB, putC]
 refine wpG_t (i := 17) (oi := ⟨some 9, .assign (.tmp 25), 3, "ntt.go:101", #[⟨13, .data⟩, ⟨16, .chain⟩, ⟨0, .phase⟩, ⟨1, .phase⟩, ⟨2, .phase⟩, ⟨3, .phase⟩, ⟨4, .phase⟩, ⟨5, .phase⟩, ⟨6, .phase⟩, ⟨7, .phase⟩, ⟨8, .phase⟩, ⟨9, .phase⟩, ⟨10, .phase⟩, ⟨11, .phase⟩, ⟨12, .phase⟩, ⟨13, .phase⟩, ⟨14, .phase⟩, ⟨15, .phase⟩, ⟨16, .phase⟩], none⟩) (v := ?_) ?_ ?_
 rotate_left
 ·intro W hW; go_simp <;> with_reducible rfl
 try simp only [Act.put, putA, putB, putC]
 refine wpG_done (by kernel_rfl) ?_
 have HTd : Hid (PwT w.drew) := HT.out.kept (Below.refl _ _).drew
 clear ha0 ha1 hb0 hb1 hev
 by_cases hodd : i % 2 = 1
 ·have hne : ((i : Int) != (v : Int)) = true := by
   have := HV.out
   simp
   omega
  have hneI : ¬ (i : Int) = (v : Int) := by have := HV.out; omega
  have hneN : ¬ i = v := by omega
  have HE : Hid (ni (((ni (F v) * ni (G u)).val : Nat) : Int) + ni (((ni (F u) * ni (G v)).val : Nat) : Int) = tm (rF F) (rF G) i) := by
   show _ = _
   rw [ni_fz, ni_fz]
   unfold tm
   rw [if_neg (by omega)]
   have e1 : u = i := by have := HU.out; have := HV.out; omega
   have e2 : v = i - 1 := by have := HV.out; omega
   rw [e1, e2]
   rfl
  go_wp2_with fail
  refine (zmulF _ _ HFv.out HGu.out _).mono ?_
  rintro e w1 ⟨rfl, rfl⟩
  go_wp2_with fail
  refine (zmulF _ _ HFu.out HGv.out _).mono ?_
  rintro e w1 ⟨rfl, rfl⟩
  go_wp2_with fail
  refine (zaddF _ _ (in64_fz _) (in64_fz _) _).mono ?_
  rintro e w1 ⟨rfl, rfl⟩
  rw [HE.out]
  go_wp2
  go_ret
  exact ⟨rfl, (Below.refl _ _).drew⟩
 ·have hie : v = i := by have := HV.out; omega
  subst hie
  obtain ⟨q, hq⟩ : ∃ q : Nat, q = v / 2 := ⟨_, rfl⟩
  have x2 : Int.tdiv (v : Int) 2 = (q : Int) := by rw [Int.tdiv_eq_ediv_of_nonneg (by omega)]; omega
  have x3 : IntKind.i64.wrap (q : Int) = (q : Int) := IntWalk.i64_in _ (by omega)
  have HQ : Hid (q < 128) := by show _ < _; omega
  have HE : Hid (ni (((ni (F v) * ni (G v)).val : Nat) : Int) + ni (((ni (((zr q).val : Nat) : Int) * ni (((ni (F u) * ni (G u)).val : Nat) : Int)).val : Nat) : Int) = tm (rF F) (rF G) v) := by
   show _ = _
   rw [ni_fz, ni_fz, ni_fz, ni_fz]
   unfold tm
   rw [if_pos (by omega), HU.out, hq, ni_rF, ni_rF, ni_rF, ni_rF]
   grind -lia
  clear hq
  go_wp2_with fail
  refine (zmulF _ _ HFv.out HGv.out _).mono ?_
  rintro e w1 ⟨rfl, rfl⟩
  go_wp2_with fail
  refine (square_any q HQ.out _ HTd.out).mono ?_
  rintro e w1 ⟨rfl, rfl⟩
  go_wp2_with fail
  refine (zmulF _ _ HFu.out HGu.out _).mono ?_
  rintro e w1 ⟨rfl, rfl⟩
  go_wp2_with fail
  refine (zmulF _ _ (in64_fz _) (in64_fz _) _).mono ?_
  rintro e w1 ⟨rfl, rfl⟩
  go_wp2_with fail
  refine (zaddF _ _ (in64_fz _) (in64_fz _) _).mono ?_
  rintro e w1 ⟨rfl, rfl⟩
  rw [HE.out]
  go_wp2
  go_ret
  exact ⟨rfl, (Below.refl _ _).drew⟩
set_option maxRecDepth 100000 in
set_option maxHeartbeats 2000000 in
theorem ntimes_any (A B : Array Value) (F G : Nat → Int) (hF : Po F) (hG : Po G) (hA : A = ((gI F).map (Value.int .i64)).toArray) (hB : B = ((gI G).map (Value.int .i64)).toArray) (w : World) (hT : PwT w) :
  Calls Tryz.prog 123 #[.agg A, .agg B] w fun e w' => e = .returned (poV (tm (rF F) (rF G))) ∧ Below w.heap.size w w' := by
 have HF : Hid (Po F) := hF
 have HG : Hid (Po G) := hG
 have hmf : ∀ (fn : Fn) (first cap : Array Value) (w : World), (Instr.makeFunc fn first cap).run Tryz.prog w = .ok (.func fn first cap) w := fun _ _ _ _ => rfl
 have HT : Hid (PwT w) := hT
 clear hF hG hT
 go_enter Tryz.func123, Tryz.ntmps123
 go_wp2_with (refine wpList_box_row (k := .i64) rfl 58 _ rfl (gI F) (by rw [← hA]; rfl) (gI_ne _) (poMax _) ?_)
 intro w1 ra b1 s1
 rw [gI_length] at ra
 have hbw := b1
 have n1 : w.heap.size < w1.heap.size := by have := s1.out; omega
 clear b1 s1 hA
 go_wp2_with (refine wpList_box_row (k := .i64) rfl 58 _ rfl (gI G) (by rw [← hB]; rfl) (gI_ne _) (poMax _) ?_)
 intro w2 rb b2 s2
 rw [gI_length] at rb
 replace ra := ra.kept b2
 replace hbw := stepB hbw b2
 have n2 : w1.heap.size < w2.heap.size := by have := s2.out; omega
 clear b2 s2 hB
 go_wp2_with (refine wpList_alloc_row (k := .i64) rfl 58 rfl (gI fun _ => 0) (alloc_poA _) (gI_ne _) (poMax _) ?_)
 intro w3 rz b3 s3
 rw [gI_length] at rz
 replace ra := ra.kept b3
 replace rb := rb.kept b3
 replace hbw := stepB hbw b3
 clear b3 s3
 go_wp2_with fail
 refine (placed_any 147 _ (tm (rF F) (rF G)) _ (enters_by Tryz.func147 (by kernel_rfl) rfl) fun i hi W hW => by rw [app2]; exact ctimes_any F G HF.out HG.out _ _ i hi W ((HT.out.kept hbw).kept hW) (ra.kept hW) (rb.kept hW)).mono ?_
 rintro e w4 ⟨rfl, b4⟩
 replace rz := rz.kept b4
 replace hbw := stepB hbw b4
 clear b4 ra rb
 go_wp2_with (refine wpList_store_row rfl 58 _ _ rfl (gI (fzF (tm (rF F) (rF G)))) rfl rfl rz (by rw [gI_length, gI_length]) (poInfoA _) ?_; intro w7 r7 hw7)
 refine bodyPost_row (k := .i64) rfl rfl rfl r7 Tryz.underlying58 rfl (poInfoA _) ?_
 exact ⟨rfl, hw7.below _ _ (by omega) hbw⟩

end Go.Proofs.YtmhbjaampobcbaaGreatDoor
