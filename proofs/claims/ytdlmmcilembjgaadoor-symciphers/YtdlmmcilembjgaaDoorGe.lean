/- What functions of the program, or of the reference, answer: contracts; several texts in one. -/
import Derived.Test.YtdlmmcilembjgaaDoorGa
import Derived.Test.YtdlmmcilembjgaaDoorBase
import Derived.Test.YtdlmmcilembjgaaDoorGb
import Derived.Test.YtdlmmcilembjgaaDoorRows
import Derived.WalkSpells
import Derived.RegionTactic
import Derived.BigRegion
import Derived.Deep.QuietTactic
import Derived.BigQuiet

namespace Go.Proofs.YtdlmmcilembjgaaDoor
set_option linter.unusedSimpArgs false
set_option linter.unusedVariables false

theorem turnN_zero (n : Nat) : turnN 0 n = 0 := by
 unfold turnN rotN
 split <;> simp
theorem thL_zero (f : Nat → Nat) (h : ∀ i, f i = 0) (k : Nat) : thL f k = 0 := by
 unfold thL colN
 simp [h, turnN_zero]
theorem rhL_zero (f : Nat → Nat) (h : ∀ i, f i = 0) (k : Nat) : rhL f k = 0 := by
 unfold rhL
 simp [h, turnN_zero]
theorem piF_zero (f : Nat → Nat) (h : ∀ i, f i = 0) (k : Nat) : piF f k = 0 := h _
theorem chL_zero (f : Nat → Nat) (h : ∀ i, f i = 0) (k : Nat) : chL f k = 0 := by
 unfold chL
 simp [h]
theorem noughts_kept (k : Nat) : chL (piF (rhL (thL fun _ => 0))) k = 0 := chL_zero _ (piF_zero _ (rhL_zero _ (thL_zero _ fun _ => rfl))) k
theorem rdL_noughts (i : Nat) : rdL (fun _ => 0) i = ioK (fun _ => 0) i := by
 unfold rdL
 congr 1
 funext k
 exact noughts_kept k

end Go.Proofs.YtdlmmcilembjgaaDoor

namespace Go.Proofs.YtdlmmcilembjgaaDoor
open Go.ChangeShapes Go.WideShapes Go.ChangeAt Go.RowKit
set_option linter.unusedSimpArgs false
set_option linter.unusedVariables false

theorem arrInfo (f : Nat → Nat) : (Tryd.prog.info? 67).map (·.size) = some (stL f).length := by rw [stL_length]; kernel_rfl
abbrev arrV (f : Nat → Nat) : Value := .agg ((stL f).map (Value.int .u64)).toArray
theorem zeros25 : #[Value.int .u64 0, .int .u64 0, .int .u64 0, .int .u64 0, .int .u64 0, .int .u64 0, .int .u64 0, .int .u64 0, .int .u64 0, .int .u64 0, .int .u64 0, .int .u64 0, .int .u64 0, .int .u64 0, .int .u64 0, .int .u64 0, .int .u64 0, .int .u64 0, .int .u64 0, .int .u64 0, .int .u64 0, .int .u64 0, .int .u64 0, .int .u64 0, .int .u64 0] = ((stL fun _ => 0).map (Value.int .u64)).toArray := by
 rw [← stL_zero]
 rfl
structure KI (w : World) (F : Nat → Nat) (wr : World) : Prop where
 a : RowAt .u64 67 w.heap.size 25 (stL F) wr
 r : RowAt .u64 67 (w.heap.size + 1) 25 (stL fun _ => 0) wr
 b : Below w.heap.size w wr
 t : Tabs wr
 two : 3 < w.heap.size
theorem KI.drew {w wr : World} {F : Nat → Nat} (h : KI w F wr) : KI w F wr.drew := ⟨h.a.drew, h.r.drew, h.b.drew, h.t.kept (Below.refl _ _).drew, h.two⟩
theorem KI.kept {w wr w2 : World} {F : Nat → Nat} (h : KI w F wr) (hb : Below wr.heap.size wr w2) : KI w F w2 := ⟨h.a.kept hb, h.r.kept hb, stepB h.b hb, h.t.kept hb, h.two⟩
theorem KI.set {w wr : World} {F G : Nat → Nat} (h : KI w F wr) (j : Nat) (x : Int) (e : (stL F).set j x = stL G) : KI w G (wr.setCell ⟨w.heap.size, j, none⟩ (.int .u64 x)) := by
 have hw := Wrote.set w.heap.size j wr (.int .u64 x)
 have h1 := h.a.set j x
 rw [e] at h1
 exact ⟨h1, h.r.wrote hw (by omega), hw.below _ _ (Nat.le_refl _) h.b, h.t.wrote hw h.two, h.two⟩
theorem KI.alloc {w wr : World} {F : Nat → Nat} (h : KI w F wr) (o : Obj) : KI w F (wr.alloc o) := h.kept (growB o)
theorem KI.other {w wr w2 : World} {F : Nat → Nat} {g : Nat} (h : KI w F wr) (hw : Wrote g wr w2) (hg : w.heap.size + 2 ≤ g) : KI w F w2 :=
 ⟨h.a.wrote hw (by omega), h.r.wrote hw (by omega), hw.below _ _ (by omega) h.b, h.t.wrote hw (by have := h.two; omega), h.two⟩
theorem KI.whole {w wr w2 : World} {F G : Nat → Nat} (h : KI w F wr) (hr : RowAt .u64 67 w.heap.size 25 (stL G) w2) (hw : Wrote w.heap.size wr w2) : KI w G w2 :=
 ⟨hr, h.r.wrote hw (by omega), hw.below _ _ (Nat.le_refl _) h.b, h.t.wrote hw h.two, h.two⟩
theorem two_rows (f : Nat → Nat) (w : World) (cs : Array Value) (hcs : cs = ((stL fun _ => 0).map (Value.int .u64)).toArray) (t : Tabs w) :
  ∃ W, (w.alloc (.cells ((stL f).map (Value.int .u64)).toArray 67)).alloc (.cells cs 67) = W ∧ KI w f W ∧ W.heap.size = w.heap.size + 2 := by
 have r1 : RowAt .u64 67 w.heap.size 25 (stL f) (w.alloc (.cells ((stL f).map (Value.int .u64)).toArray 67)) := RowAt.fresh (stL f) rfl rfl (stL_length f).symm (stL_ne f) (by rw [stL_length]; simp [maxLen])
 have r2 : RowAt .u64 67 (w.heap.size + 1) 25 (stL fun _ => 0) ((w.alloc (.cells ((stL f).map (Value.int .u64)).toArray 67)).alloc (.cells cs 67)) := RowAt.fresh (stL fun _ => 0) hcs (by simp) (stL_length _).symm (stL_ne _) (by rw [stL_length]; simp [maxLen])
 have hb := stepB (growB (w := w) (.cells ((stL f).map (Value.int .u64)).toArray 67)) (growB (.cells cs 67))
 exact ⟨_, rfl, ⟨r1.kept (growB _), r2, hb, t.kept hb, t.two⟩, by simp⟩

set_option maxHeartbeats 400000 in
theorem kIota_out (A : Array Value) (f : Nat → Nat) (hA : A = ((stL f).map (Value.int .u64)).toArray) (r : Int) (hr : decide (0 ≤ r ∧ r ≤ 23) = false) (w : World) (ht : Tabs w) :
  Calls Tryd.prog 86 #[.agg A, .int .i64 r] w fun e w' => e = .returned (arrV f) ∧ Below w.heap.size w w' := by
 have HA : Hid _ := hA
 clear hA
 go_enter Tryd.func86, Tryd.ntmps86
 go_wp2_with fail
 rw [HA.out]
 obtain ⟨W, hW, hI, hs⟩ := two_rows f w _ zeros25 ht
 rw [hW]
 clear hW ht
 refine (isRound_any _ _).mono ?_
 rintro e w1 ⟨rfl, rfl⟩
 rw [hr]
 have r1 := hI.a
 have r2 := hI.r
 go_wp2_with (first | refine wpList_load_row rfl 67 _ rfl rfl r1 _ Tryd.underlying67 rfl (arrInfo _) ?_ | (refine wpList_store_row rfl 67 _ _ rfl (stL f) rfl rfl r2 (by simp [stL_length]) (arrInfo _) ?_; intro w2 r3 hw))
 refine bodyPost_row (p := 4) (ty := 67) rfl rfl rfl r3 Tryd.underlying67 rfl (arrInfo _) ?_
 exact ⟨rfl, hw.below _ _ (by omega) hI.b⟩

set_option maxHeartbeats 400000 in
theorem kIota_in (A : Array Value) (f : Nat → Nat) (hf : ∀ i, f i < 18446744073709551616) (hA : A = ((stL f).map (Value.int .u64)).toArray) (n : Nat) (hlt : n < 24) (w : World) (ht : Tabs w) :
  Calls Tryd.prog 86 #[.agg A, .int .i64 (n : Int)] w fun e w' => e = .returned (arrV (ioK f n)) ∧ Below w.heap.size w w' := by
 have hr : decide (0 ≤ (n : Int) ∧ (n : Int) ≤ 23) = true := decide_eq_true (by omega)
 have HA : Hid _ := hA
 clear hA
 go_enter Tryd.func86, Tryd.ntmps86
 go_wp2_with fail
 rw [HA.out]
 obtain ⟨W, hW, hI, hs⟩ := two_rows f w _ zeros25 ht
 rw [hW]
 clear hW ht
 refine (isRound_any _ _).mono ?_
 rintro e w1 ⟨rfl, rfl⟩
 rw [hr]
 clear hr
 have hlt2 : ((n : Nat) : Int) < 24 := by omega
 have hc := hI.a.cell (j := 0) (by rw [stL_length]; decide)
 have hcf := hI.a.free 0
 have hk := hI.t.consts n hlt
 rw [stL_get f 0 (by decide)] at hc
 rw [ksT_get n hlt] at hk
 have HS : Hid (∀ x : Int, x = ((f 0 ^^^ kst.getD n 0 : Nat) : Int) → KI w (ioK f n) (w1.setCell ⟨w.heap.size, 0, none⟩ (.int .u64 x))) := by
  intro x hx
  exact hI.set 0 x (by rw [hx]; exact ioKI f n)
 have HX : Hid _ := xorI (f 0) (kst.getD n 0) (hf 0) (kst_lt n hlt)
 generalize f 0 = q0 at hc HX HS
 generalize kst.getD n 0 = q1 at hk HX HS
 have HI : Hid _ := hI
 clear hI hf
 go_wp2_with fail
 refine wpE_begin 7 (by kernel_rfl) ?_
 refine wpE_t (i := 0) (oi := ⟨some 7, .indexAddr 67 (.tmp 2) (.const (.int .i64 0)), 0, "keccak.go:82", #[], none⟩) (v := ?_) ?_ ?_
 rotate_left
 ·intro W hW; go_simp <;> with_reducible rfl
 try simp only [Act.put, putA, putB, putC]
 refine wpE_t (i := 1) (oi := ⟨some 8, .load 23 (.tmp 7), 23, "keccak.go:82", #[⟨0, .data⟩], none⟩) (v := ?_) ?_ ?_
 rotate_left
 ·intro W hW; have hcW := cellU hc hW; go_simp <;> with_reducible rfl
 try simp only [Act.put, putA, putB, putC]
 refine wpE_t (i := 2) (oi := ⟨some 9, .move (.tmp 1), 3, "keccak.go:82", #[], none⟩) (v := ?_) ?_ ?_
 rotate_left
 ·intro W hW; go_simp <;> with_reducible rfl
 try simp only [Act.put, putA, putB, putC]
 refine wpE_t (i := 3) (oi := ⟨some 10, .indexAddr 116 (.global 2) (.tmp 9), 0, "keccak.go:82", #[⟨2, .data⟩], none⟩) (v := ?_) ?_ ?_
 rotate_left
 ·intro W hW; go_simp <;> with_reducible rfl
 try simp only [Act.put, putA, putB, putC]
 refine wpE_t (i := 4) (oi := ⟨some 11, .load 23 (.tmp 10), 23, "keccak.go:82", #[⟨3, .data⟩], none⟩) (v := ?_) ?_ ?_
 rotate_left
 ·intro W hW; have hcW := cellU hk hW; go_simp <;> with_reducible rfl
 try simp only [Act.put, putA, putB, putC]
 refine wpE_t (i := 5) (oi := ⟨some 12, .binOp .xor 23 (.tmp 8) (.tmp 11) 23, 23, "keccak.go:82", #[⟨1, .data⟩, ⟨4, .data⟩], none⟩) (v := ?_) ?_ ?_
 rotate_left
 ·intro W hW; go_simp <;> with_reducible rfl
 try simp only [Act.put, putA, putB, putC]
 refine wpE_t (i := 6) (oi := ⟨some 13, .indexAddr 67 (.tmp 2) (.const (.int .i64 0)), 0, "keccak.go:82", #[⟨0, .phase⟩, ⟨1, .phase⟩, ⟨2, .phase⟩, ⟨3, .phase⟩, ⟨4, .phase⟩, ⟨5, .phase⟩], none⟩) (v := ?_) ?_ ?_
 rotate_left
 ·intro W hW; go_simp <;> with_reducible rfl
 try simp only [Act.put, putA, putB, putC]
 refine wpE_last (o := ⟨none, .store 23 (.tmp 13) (.tmp 12), 0, "keccak.go:82", #[⟨6, .data⟩, ⟨5, .data⟩, ⟨0, .phase⟩, ⟨1, .phase⟩, ⟨2, .phase⟩, ⟨3, .phase⟩, ⟨4, .phase⟩, ⟨5, .phase⟩], none⟩) (by kernel_rfl) (by kernel_rfl) rfl (by rfl) fun K hK => ?_
 go_simp
 refine hK.out _ _ ?_
 clear hK K
 try simp only [Act.put, putA, putB, putC]

 have hI2 := HS.out _ HX.out
 have r1 := hI2.drew.a
 have r2 := hI2.drew.r
 go_wp2_with (first | refine wpList_load_row rfl 67 _ rfl rfl r1 _ Tryd.underlying67 rfl (arrInfo _) ?_ | (refine wpList_store_row rfl 67 _ _ rfl (stL (ioK f n)) rfl rfl r2 (by simp [stL_length]) (arrInfo _) ?_; intro w2 r3 hw))
 refine bodyPost_row (p := 4) (ty := 67) rfl rfl rfl r3 Tryd.underlying67 rfl (arrInfo _) ?_
 exact ⟨rfl, hw.below _ _ (by omega) hI2.drew.b⟩

def ioI (f : Nat → Nat) (r : Int) : Nat → Nat := if 0 ≤ r ∧ r ≤ 23 then ioK f r.toNat else f
theorem kIota_any (A : Array Value) (f : Nat → Nat) (hf : ∀ i, f i < 18446744073709551616) (hA : A = ((stL f).map (Value.int .u64)).toArray) (r : Int) (w : World) (ht : Tabs w) :
  Calls Tryd.prog 86 #[.agg A, .int .i64 r] w fun e w' => e = .returned (arrV (ioI f r)) ∧ Below w.heap.size w w' := by
 by_cases h : 0 ≤ r ∧ r ≤ 23
 ·obtain ⟨n, rfl⟩ : ∃ n : Nat, r = n := ⟨r.toNat, by omega⟩
  have e : ioI f (n : Int) = ioK f n := by unfold ioI; rw [if_pos h, Int.toNat_natCast]
  rw [e]
  exact kIota_in A f hf hA n (by omega) w ht
 ·have e : ioI f r = f := by unfold ioI; rw [if_neg h]
  rw [e]
  exact kIota_out A f hA r (decide_eq_false h) w ht
def rhM (j : Nat) : Nat := if j = 0 then 0 else rhBy (rhTau j)
theorem rhM_lt (j : Nat) : rhM j < 64 := by
 unfold rhM
 split
 ·decide
 ·exact rhBy_lt _
theorem rhM_turn (f : Nat → Nat) (j : Nat) : turnN (f j) (rhM j) = rhL f j := by
 unfold rhM rhL
 by_cases h : j = 0
 ·subst h; rfl
 ·rw [if_neg h, if_neg h]

set_option maxHeartbeats 1000000 in
theorem kRho_any (A : Array Value) (f : Nat → Nat) (hf : ∀ i, f i < 18446744073709551616) (hA : A = ((stL f).map (Value.int .u64)).toArray) (w : World) (ht : Tabs w) :
  Calls Tryd.prog 89 #[.agg A] w fun e w' => e = .returned (arrV (rhL f)) ∧ Below w.heap.size w w' := by
 have HA : Hid _ := hA
 have HF : Hid (∀ i, f i < 18446744073709551616) := hf
 clear hA hf
 go_enter Tryd.func89, Tryd.ntmps89
 go_wp2
 rw [HA.out]
 obtain ⟨W, hW, hI, hs⟩ := two_rows f w _ zeros25 ht
 rw [hW]
 clear hW ht
 go_loopw [4] (fun i wr => ∃ j : Nat, j ≤ 25 ∧ i = .int .i64 j ∧ KI w (upQ f (rhL f) j) wr) (fun i _ => 25 - (intOf i).toNat)
 case atStart => exact ⟨0, by omega, rfl, by have e := upQ_zero f (rhL f); exact ⟨e ▸ hI.a, hI.r, hI.b, hI.t, hI.two⟩⟩
 case round =>
  obtain ⟨j, hj, rfl, hI2⟩ := hrel
  clear hI hs
  by_cases hlt : j < 25
  ·have hd : decide ((j : Int) < 25) = true := decide_eq_true (by omega)
   have hjI : (j : Int) < 25 := by omega
   have hc := hI2.a.cell (j := j) (by rw [stL_length]; exact hlt)
   have hcf := hI2.a.free j
   have hk := hI2.t.turns j hlt
   rw [stL_get _ j hlt, upQ_get] at hc
   rw [trT_eq j hlt] at hk
   have HT : Hid _ := rhM_turn f j
   have hm := rhM_lt j
   have hq := HF.out j
   have HS : Hid (∀ x : Int, x = ((rhL f j : Nat) : Int) → KI w (upQ f (rhL f) (j + 1)) (wr.setCell ⟨w.heap.size, j, none⟩ (.int .u64 x))) := by
    intro x hx
    exact hI2.set j x (by rw [hx]; exact upQ_set f (rhL f) j)
   change wr.cell? ⟨3, j, none⟩ = some (.int .i64 ((rhM j : Nat) : Int)) at hk
   generalize f j = q0 at hc HT hq
   generalize rhM j = q1 at hk HT hm
   have HI : Hid _ := hI2
   clear hI2
   go_wp2_with fail
   refine wpE_begin 9 (by kernel_rfl) ?_
   refine wpE_t (i := 0) (oi := ⟨some 7, .move (.tmp 3), 3, "keccak.go:51", #[], none⟩) (v := ?_) ?_ ?_
   rotate_left
   ·intro W hW; go_simp <;> with_reducible rfl
   try simp only [Act.put, putA, putB, putC]
   refine wpE_t (i := 1) (oi := ⟨some 8, .move (.tmp 3), 3, "keccak.go:51", #[], none⟩) (v := ?_) ?_ ?_
   rotate_left
   ·intro W hW; go_simp <;> with_reducible rfl
   try simp only [Act.put, putA, putB, putC]
   refine wpE_t (i := 2) (oi := ⟨some 9, .indexAddr 67 (.tmp 1) (.tmp 8), 0, "keccak.go:51", #[⟨1, .data⟩], none⟩) (v := ?_) ?_ ?_
   rotate_left
   ·intro W hW; go_simp <;> with_reducible rfl
   try simp only [Act.put, putA, putB, putC]
   refine wpE_t (i := 3) (oi := ⟨some 10, .load 23 (.tmp 9), 23, "keccak.go:51", #[⟨2, .data⟩], none⟩) (v := ?_) ?_ ?_
   rotate_left
   ·intro W hW; have hcW := cellU hc hW; go_simp <;> with_reducible rfl
   try simp only [Act.put, putA, putB, putC]
   refine wpE_t (i := 4) (oi := ⟨some 11, .move (.tmp 3), 3, "keccak.go:51", #[], none⟩) (v := ?_) ?_ ?_
   rotate_left
   ·intro W hW; go_simp <;> with_reducible rfl
   try simp only [Act.put, putA, putB, putC]
   refine wpE_t (i := 5) (oi := ⟨some 12, .indexAddr 117 (.global 3) (.tmp 11), 0, "keccak.go:51", #[⟨4, .data⟩], none⟩) (v := ?_) ?_ ?_
   rotate_left
   ·intro W hW; go_simp <;> with_reducible rfl
   try simp only [Act.put, putA, putB, putC]
   refine wpE_t (i := 6) (oi := ⟨some 13, .load 3 (.tmp 12), 3, "keccak.go:51", #[⟨5, .data⟩], none⟩) (v := ?_) ?_ ?_
   rotate_left
   ·intro W hW; have hcW := cellU hk hW; go_simp <;> with_reducible rfl
   try simp only [Act.put, putA, putB, putC]
   refine wpE_do (i := 7) (o := ⟨some 14, .call { callee := .value (.func 93), args := #[.tmp 10, .tmp 13], argTypes := #[23, 3] }, 23, "keccak.go:51", #[⟨3, .data⟩, ⟨6, .data⟩], none⟩) (by kernel_rfl) rfl (by rfl) fun K hK => ?_
   go_simp
   refine (rot_any q0 q1 _ _ rfl rfl hq hm _).mono ?_
   rintro e w' ⟨rfl, rfl⟩
   refine hK.out _ _ (Below.refl _ _) ?_
   clear hK K
   try simp only [Act.put, putA, putB, putC]
   refine wpE_t (i := 8) (oi := ⟨some 15, .indexAddr 67 (.tmp 1) (.tmp 7), 0, "keccak.go:51", #[⟨0, .data⟩, ⟨0, .phase⟩, ⟨1, .phase⟩, ⟨2, .phase⟩, ⟨3, .phase⟩, ⟨4, .phase⟩, ⟨5, .phase⟩, ⟨6, .phase⟩, ⟨7, .phase⟩], none⟩) (v := ?_) ?_ ?_
   rotate_left
   ·intro W hW; go_simp <;> with_reducible rfl
   try simp only [Act.put, putA, putB, putC]
   refine wpE_last (o := ⟨none, .store 23 (.tmp 15) (.tmp 14), 0, "keccak.go:51", #[⟨8, .data⟩, ⟨7, .data⟩, ⟨7, .chain⟩, ⟨0, .phase⟩, ⟨1, .phase⟩, ⟨2, .phase⟩, ⟨3, .phase⟩, ⟨4, .phase⟩, ⟨5, .phase⟩, ⟨6, .phase⟩, ⟨7, .phase⟩], none⟩) (by kernel_rfl) (by kernel_rfl) rfl (by rfl) fun K hK => ?_
   go_simp
   refine hK.out _ _ ?_
   clear hK K
   try simp only [Act.put, putA, putB, putC]

   rw [HT.out]
   have hI3 := (HS.out _ rfl).drew
   go_wp2
   go_roundw
   case rel => exact ⟨j + 1, by omega, by go_num, hI3⟩
   case measure => simp [intOf]; omega
  ·have hje : j = 25 := by omega
   subst hje
   have r1 := hI2.a
   rw [upQ_done] at r1
   have r2 := hI2.r
   go_wp2_with (first | refine wpList_load_row rfl 67 _ rfl rfl r1 _ Tryd.underlying67 rfl (arrInfo _) ?_ | (refine wpList_store_row rfl 67 _ _ rfl (stL (rhL f)) rfl rfl r2 (by simp [stL_length]) (arrInfo _) ?_; intro w2 r3 hw))
   refine bodyPost_row (p := 2) (ty := 67) rfl rfl rfl r3 Tryd.underlying67 rfl (arrInfo _) ?_
   exact ⟨rfl, hw.below _ _ (by omega) hI2.b⟩
def cS (f : Nat → Nat) : Nat → Nat → Nat
 | 0, _ => 0
 | j + 1, x => if j % 5 = x then cS f j x ^^^ f j else cS f j x
theorem cS_lt (f : Nat → Nat) (hf : ∀ i, f i < 18446744073709551616) : ∀ j x, cS f j x < 18446744073709551616
 | 0, _ => by simp [cS]
 | j + 1, x => by
  unfold cS
  split
  ·exact xor_lt64 (cS_lt f hf j x) (hf j)
  ·exact cS_lt f hf j x
theorem cS_done (f : Nat → Nat) (x : Nat) (hx : x < 5) : cS f 25 x = colN f x := by
 have h : x = 0 ∨ x = 1 ∨ x = 2 ∨ x = 3 ∨ x = 4 := by omega
 rcases h with rfl | rfl | rfl | rfl | rfl <;> simp [cS, colN]
def sL (f : Nat → Nat) (j : Nat) : List Int := (List.range 5).map fun x => ((cS f j x : Nat) : Int)
theorem sL_length (f : Nat → Nat) (j : Nat) : (sL f j).length = 5 := by simp [sL]
theorem sL_ne (f : Nat → Nat) (j : Nat) : sL f j ≠ [] := by
 intro h
 have := sL_length f j
 rw [h] at this
 simp at this
theorem sL_get (f : Nat → Nat) (j x : Nat) (hx : x < 5) : (sL f j).getD x 0 = ((cS f j x : Nat) : Int) := by simp [sL, hx]
theorem sL_set (f : Nat → Nat) (j : Nat) : (sL f j).set (j % 5) ((cS f j (j % 5) ^^^ f j : Nat) : Int) = sL f (j + 1) := by
 refine List.ext_getElem (by simp [sL]) fun i h1 h2 => ?_
 simp only [sL, List.getElem_set, List.getElem_map, List.getElem_range, cS]
 by_cases e : j % 5 = i
 ·subst e; simp
 ·simp [e]
theorem sL_zero (f : Nat → Nat) : #[Value.int .u64 0, .int .u64 0, .int .u64 0, .int .u64 0, .int .u64 0] = ((sL f 0).map (Value.int .u64)).toArray := rfl

def thR (f : Nat → Nat) (X Y k : Nat) : Nat := if k % 5 < X ∨ (k % 5 = X ∧ k / 5 < Y) then thL f k else f k
theorem thR_zero (f : Nat → Nat) : stL f = stL (thR f 0 0) := stL_congr fun i hi => by simp [thR]
theorem thR_next (f : Nat → Nat) (X : Nat) : stL (thR f X 5) = stL (thR f (X + 1) 0) := stL_congr fun i hi => by
 unfold thR
 have h1 : (i % 5 < X ∨ i % 5 = X ∧ i / 5 < 5) ↔ (i % 5 < X + 1 ∨ i % 5 = X + 1 ∧ i / 5 < 0) := by omega
 simp only [h1]
theorem thR_done (f : Nat → Nat) : stL (thR f 5 0) = stL (thL f) := stL_congr fun i hi => by
 unfold thR
 rw [if_pos (by omega)]
theorem thR_get (f : Nat → Nat) (X Y : Nat) (hX : X < 5) : thR f X Y (X + 5 * Y) = f (X + 5 * Y) := by
 unfold thR
 rw [if_neg (by omega)]
theorem thR_set (f : Nat → Nat) (X Y : Nat) (hX : X < 5) (hY : Y < 5) : (stL (thR f X Y)).set (X + 5 * Y) ((thL f (X + 5 * Y) : Nat) : Int) = stL (thR f X (Y + 1)) := by
 rw [stL_set]
 refine stL_congr fun i hi => ?_
 unfold thR
 by_cases e : i = X + 5 * Y
 ·subst e
  rw [if_pos rfl, if_pos (by omega)]
 ·rw [if_neg e]
  have h1 : (i % 5 < X ∨ i % 5 = X ∧ i / 5 < Y) ↔ (i % 5 < X ∨ i % 5 = X ∧ i / 5 < Y + 1) := by omega
  simp only [h1]
theorem th_add (f : Nat → Nat) (X Y : Nat) (hX : X < 5) : f (X + 5 * Y) ^^^ (colN f ((X + 4) % 5) ^^^ turnN (colN f ((X + 1) % 5)) 1) = thL f (X + 5 * Y) := by
 unfold thL
 rw [show (X + 5 * Y) % 5 = X by omega, Nat.xor_assoc]

set_option maxRecDepth 100000 in
set_option maxHeartbeats 2000000 in
theorem kTheta_any (A : Array Value) (f : Nat → Nat) (hf : ∀ i, f i < 18446744073709551616) (hA : A = ((stL f).map (Value.int .u64)).toArray) (w : World) (ht : Tabs w) :
  Calls Tryd.prog 90 #[.agg A] w fun e w' => e = .returned (arrV (thL f)) ∧ Below w.heap.size w w' := by
 have HA : Hid _ := hA
 have HF : Hid (∀ i, f i < 18446744073709551616) := hf
 clear hA hf
 go_enter Tryd.func90, Tryd.ntmps90
 go_wp2
 rw [HA.out]
 obtain ⟨W, hW, hI, hs⟩ := two_rows f w _ zeros25 ht
 rw [hW]
 clear hW ht
 have rs : RowAt .u64 110 (w.heap.size + 2) 5 (sL f 0) (W.alloc (.cells #[Value.int .u64 0, .int .u64 0, .int .u64 0, .int .u64 0, .int .u64 0] 110)) :=
  RowAt.fresh (sL f 0) (sL_zero f) hs.symm (sL_length f 0).symm (sL_ne f 0) (by rw [sL_length]; simp [maxLen])
 have hI1 := hI.alloc (.cells #[Value.int .u64 0, .int .u64 0, .int .u64 0, .int .u64 0, .int .u64 0] 110)
 generalize W.alloc (.cells #[Value.int .u64 0, .int .u64 0, .int .u64 0, .int .u64 0, .int .u64 0] 110) = W1 at rs hI1
 clear hI hs
 go_loopw [8] (fun i wr => ∃ j : Nat, j ≤ 25 ∧ i = .int .i64 j ∧ KI w f wr ∧ RowAt .u64 110 (w.heap.size + 2) 5 (sL f j) wr) (fun i _ => 25 - (intOf i).toNat)
 case atStart => exact ⟨0, by omega, rfl, hI1, rs⟩
 case round =>
  obtain ⟨j, hj, rfl, hI2, rs2⟩ := hrel
  clear hI1 rs
  by_cases hlt : j < 25
  ·have hd : decide ((j : Int) < 25) = true := decide_eq_true (by omega)
   have hjI : (j : Int) < 25 := by omega
   obtain ⟨m, hm⟩ : ∃ m : Nat, m = j % 5 := ⟨_, rfl⟩
   have bm : (m : Int) < 5 := by omega
   have t0 : (j : Int).tmod 5 = (m : Int) := by rw [hm]; exact Int.tmod_eq_emod_of_nonneg (by omega)
   have u0 : (j : Int) % 5 = (m : Int) := by omega
   have hc := hI2.a.cell (j := j) (by rw [stL_length]; exact hlt)
   rw [stL_get _ j hlt] at hc
   have cs := rs2.cell (j := m) (by rw [sL_length]; omega)
   rw [sL_get _ _ _ (by omega)] at cs
   have fs := rs2.free m
   have HX : Hid _ := xorI (cS f j m) (f j) (cS_lt f HF.out _ _) (HF.out j)
   have HS : Hid (∀ x : Int, x = ((cS f j m ^^^ f j : Nat) : Int) → RowAt .u64 110 (w.heap.size + 2) 5 (sL f (j + 1)) (wr.setCell ⟨w.heap.size + 2, m, none⟩ (.int .u64 x)) ∧ KI w f (wr.setCell ⟨w.heap.size + 2, m, none⟩ (.int .u64 x))) := by
    intro x hx
    refine ⟨?_, hI2.other (Wrote.set _ m wr _) (Nat.le_refl _)⟩
    rw [← sL_set, ← hm, ← hx]
    exact rs2.set m x
   generalize f j = q0 at hc HX HS
   generalize cS f j m = q1 at cs HX HS
   clear hI2 rs2 hm
   go_wp2_with fail
   refine wpE_begin 9 (by kernel_rfl) ?_
   refine wpE_t (i := 0) (oi := ⟨some 11, .move (.tmp 4), 3, "keccak.go:37", #[], none⟩) (v := ?_) ?_ ?_
   rotate_left
   ·intro W hW; go_simp <;> with_reducible rfl
   try simp only [Act.put, putA, putB, putC]
   refine wpE_t (i := 1) (oi := ⟨some 12, .binOp .rem 3 (.tmp 11) (.const (.int .i64 5)) 3, 3, "keccak.go:37", #[⟨0, .data⟩], none⟩) (v := ?_) ?_ ?_
   rotate_left
   ·intro W hW; go_simp <;> with_reducible rfl
   try simp only [Act.put, putA, putB, putC]
   refine wpE_t (i := 2) (oi := ⟨some 13, .indexAddr 110 (.tmp 3) (.tmp 12), 0, "keccak.go:37", #[⟨1, .data⟩], none⟩) (v := ?_) ?_ ?_
   rotate_left
   ·intro W hW; go_simp <;> with_reducible rfl
   try simp only [Act.put, putA, putB, putC]
   refine wpE_t (i := 3) (oi := ⟨some 14, .load 23 (.tmp 13), 23, "keccak.go:37", #[⟨2, .data⟩], none⟩) (v := ?_) ?_ ?_
   rotate_left
   ·intro W hW; have hcW := cellU cs hW; go_simp <;> with_reducible rfl
   try simp only [Act.put, putA, putB, putC]
   refine wpE_t (i := 4) (oi := ⟨some 15, .move (.tmp 4), 3, "keccak.go:37", #[], none⟩) (v := ?_) ?_ ?_
   rotate_left
   ·intro W hW; go_simp <;> with_reducible rfl
   try simp only [Act.put, putA, putB, putC]
   refine wpE_t (i := 5) (oi := ⟨some 16, .indexAddr 67 (.tmp 1) (.tmp 15), 0, "keccak.go:37", #[⟨4, .data⟩], none⟩) (v := ?_) ?_ ?_
   rotate_left
   ·intro W hW; go_simp <;> with_reducible rfl
   try simp only [Act.put, putA, putB, putC]
   refine wpE_t (i := 6) (oi := ⟨some 17, .load 23 (.tmp 16), 23, "keccak.go:37", #[⟨5, .data⟩], none⟩) (v := ?_) ?_ ?_
   rotate_left
   ·intro W hW; have hcW := cellU hc hW; go_simp <;> with_reducible rfl
   try simp only [Act.put, putA, putB, putC]
   refine wpE_t (i := 7) (oi := ⟨some 18, .binOp .xor 23 (.tmp 14) (.tmp 17) 23, 23, "keccak.go:37", #[⟨3, .data⟩, ⟨6, .data⟩], none⟩) (v := ?_) ?_ ?_
   rotate_left
   ·intro W hW; go_simp <;> with_reducible rfl
   try simp only [Act.put, putA, putB, putC]
   refine wpE_t (i := 8) (oi := ⟨some 19, .indexAddr 110 (.tmp 3) (.tmp 12), 0, "keccak.go:37", #[⟨1, .data⟩, ⟨0, .phase⟩, ⟨1, .phase⟩, ⟨2, .phase⟩, ⟨3, .phase⟩, ⟨4, .phase⟩, ⟨5, .phase⟩, ⟨6, .phase⟩, ⟨7, .phase⟩], none⟩) (v := ?_) ?_ ?_
   rotate_left
   ·intro W hW; go_simp <;> with_reducible rfl
   try simp only [Act.put, putA, putB, putC]
   refine wpE_last (o := ⟨none, .store 23 (.tmp 19) (.tmp 18), 0, "keccak.go:37", #[⟨8, .data⟩, ⟨7, .data⟩, ⟨0, .phase⟩, ⟨1, .phase⟩, ⟨2, .phase⟩, ⟨3, .phase⟩, ⟨4, .phase⟩, ⟨5, .phase⟩, ⟨6, .phase⟩, ⟨7, .phase⟩], none⟩) (by kernel_rfl) (by kernel_rfl) rfl (by rfl) fun K hK => ?_
   go_simp
   refine hK.out _ _ ?_
   clear hK K
   try simp only [Act.put, putA, putB, putC]

   obtain ⟨rs3, hI3⟩ := HS.out _ HX.out
   have hI4 := hI3.drew
   have rs4 := rs3.drew
   go_wp2
   go_roundw
   case rel => exact ⟨j + 1, by omega, by go_num, hI4, rs4⟩
   case measure => simp [intOf]; omega
  ·have hje : j = 25 := by omega
   rw [hje] at rs2
   have hd0 : decide ((j : Int) < 25) = false := decide_eq_false (by omega)
   have hj0 : (25 : Int) ≤ j := by omega
   have hI3 : KI w (thR f 0 0) wr := ⟨thR_zero f ▸ hI2.a, hI2.r, hI2.b, hI2.t, hI2.two⟩
   clear hI2 hlt hj hje
   go_wp2
   go_loopw [21] (fun i wr => ∃ X : Nat, X ≤ 5 ∧ i = .int .i64 X ∧ KI w (thR f X 0) wr ∧ RowAt .u64 110 (w.heap.size + 2) 5 (sL f 25) wr) (fun i _ => 5 - (intOf i).toNat)
   case atStart => exact ⟨0, by omega, rfl, hI3, rs2⟩
   case round =>
    obtain ⟨X, hX, rfl, hI4, rs4⟩ := hrel
    clear hI3 rs2
    by_cases hlt : X < 5
    ·have hd : decide ((X : Int) < 5) = true := decide_eq_true (by omega)
     have hXI : (X : Int) < 5 := by omega
     obtain ⟨m4, hm4⟩ : ∃ m : Nat, m = (X + 4) % 5 := ⟨_, rfl⟩
     obtain ⟨m1, hm1⟩ : ∃ m : Nat, m = (X + 1) % 5 := ⟨_, rfl⟩
     have b4 : (m4 : Int) < 5 := by omega
     have b1 : (m1 : Int) < 5 := by omega
     have v4 : IntKind.i64.wrap ((X : Int) + 4) = (X : Int) + 4 := IntWalk.i64_in _ (by omega)
     have v1 : IntKind.i64.wrap ((X : Int) + 1) = (X : Int) + 1 := IntWalk.i64_in _ (by omega)
     have t4 : ((X : Int) + 4).tmod 5 = (m4 : Int) := by rw [Int.tmod_eq_emod_of_nonneg (by omega)]; omega
     have t1 : ((X : Int) + 1).tmod 5 = (m1 : Int) := by rw [Int.tmod_eq_emod_of_nonneg (by omega)]; omega
     have u4 : ((X : Int) + 4) % 5 = (m4 : Int) := by omega
     have u1 : ((X : Int) + 1) % 5 = (m1 : Int) := by omega
     have c4 := rs4.cell (j := m4) (by rw [sL_length]; omega)
     have c1 := rs4.cell (j := m1) (by rw [sL_length]; omega)
     rw [sL_get _ _ _ (by omega), cS_done _ _ (by omega)] at c4 c1
     have HTA : Hid (∀ Y, f (X + 5 * Y) ^^^ (colN f m4 ^^^ turnN (colN f m1) 1) = thL f (X + 5 * Y)) := by
      intro Y
      rw [hm4, hm1]
      exact th_add f X Y hlt
     have h4 := colN_lt f HF.out m4
     have h1 := colN_lt f HF.out m1
     have HX : Hid _ := xorI (colN f m4) (turnN (colN f m1) 1) h4 (turnN_lt _ _ h1 (by decide))
     have HL : Hid (colN f m4 ^^^ turnN (colN f m1) 1 < 18446744073709551616) := xor_lt64 h4 (turnN_lt _ _ h1 (by decide))
     generalize colN f m4 = q4 at c4 HX HTA HL h4
     generalize colN f m1 = q1 at c1 HX HTA HL h1
     have HI : Hid _ := hI4
     have HR : Hid _ := rs4
     clear hI4 rs4 hm4 hm1
     go_wp2_with fail
     refine wpG_begin (by kernel_rfl) ?_
     refine wpG_t (i := 0) (oi := ⟨some 24, .move (.tmp 5), 3, "keccak.go:40", #[], none⟩) (v := ?_) ?_ ?_
     rotate_left
     ·intro W hW; go_simp <;> with_reducible rfl
     try simp only [Act.put, putA, putB, putC]
     refine wpG_t (i := 1) (oi := ⟨some 25, .binOp .add 3 (.tmp 24) (.const (.int .i64 4)) 3, 3, "keccak.go:40", #[⟨0, .data⟩], none⟩) (v := ?_) ?_ ?_
     rotate_left
     ·intro W hW; go_simp <;> with_reducible rfl
     try simp only [Act.put, putA, putB, putC]
     refine wpG_t (i := 2) (oi := ⟨some 26, .binOp .rem 3 (.tmp 25) (.const (.int .i64 5)) 3, 3, "keccak.go:40", #[⟨1, .data⟩], none⟩) (v := ?_) ?_ ?_
     rotate_left
     ·intro W hW; go_simp <;> with_reducible rfl
     try simp only [Act.put, putA, putB, putC]
     refine wpG_t (i := 3) (oi := ⟨some 27, .indexAddr 110 (.tmp 3) (.tmp 26), 0, "keccak.go:40", #[⟨2, .data⟩], none⟩) (v := ?_) ?_ ?_
     rotate_left
     ·intro W hW; go_simp <;> with_reducible rfl
     try simp only [Act.put, putA, putB, putC]
     refine wpG_t (i := 4) (oi := ⟨some 28, .load 23 (.tmp 27), 23, "keccak.go:40", #[⟨3, .data⟩], none⟩) (v := ?_) ?_ ?_
     rotate_left
     ·intro W hW; have hcW := cellU c4 hW; go_simp <;> with_reducible rfl
     try simp only [Act.put, putA, putB, putC]
     refine wpG_t (i := 5) (oi := ⟨some 29, .move (.tmp 5), 3, "keccak.go:40", #[], none⟩) (v := ?_) ?_ ?_
     rotate_left
     ·intro W hW; go_simp <;> with_reducible rfl
     try simp only [Act.put, putA, putB, putC]
     refine wpG_t (i := 6) (oi := ⟨some 30, .binOp .add 3 (.tmp 29) (.const (.int .i64 1)) 3, 3, "keccak.go:40", #[⟨5, .data⟩], none⟩) (v := ?_) ?_ ?_
     rotate_left
     ·intro W hW; go_simp <;> with_reducible rfl
     try simp only [Act.put, putA, putB, putC]
     refine wpG_t (i := 7) (oi := ⟨some 31, .binOp .rem 3 (.tmp 30) (.const (.int .i64 5)) 3, 3, "keccak.go:40", #[⟨6, .data⟩], none⟩) (v := ?_) ?_ ?_
     rotate_left
     ·intro W hW; go_simp <;> with_reducible rfl
     try simp only [Act.put, putA, putB, putC]
     refine wpG_t (i := 8) (oi := ⟨some 32, .indexAddr 110 (.tmp 3) (.tmp 31), 0, "keccak.go:40", #[⟨7, .data⟩], none⟩) (v := ?_) ?_ ?_
     rotate_left
     ·intro W hW; go_simp <;> with_reducible rfl
     try simp only [Act.put, putA, putB, putC]
     refine wpG_t (i := 9) (oi := ⟨some 33, .load 23 (.tmp 32), 23, "keccak.go:40", #[⟨8, .data⟩], none⟩) (v := ?_) ?_ ?_
     rotate_left
     ·intro W hW; have hcW := cellU c1 hW; go_simp <;> with_reducible rfl
     try simp only [Act.put, putA, putB, putC]
     refine wpG_do (i := 10) (o := ⟨some 34, .call { callee := .value (.func 93), args := #[.tmp 33, .const (.int .i64 1)], argTypes := #[23, 3] }, 23, "keccak.go:40", #[⟨9, .data⟩], none⟩) (by kernel_rfl) rfl (by rfl) fun K hK => ?_
     go_simp
     refine (rot_any q1 1 _ _ rfl rfl h1 (by decide) _).mono ?_
     rintro e w' ⟨rfl, rfl⟩
     refine hK.out _ _ (Below.refl _ _) ?_
     clear hK K
     try simp only [Act.put, putA, putB, putC]
     refine wpG_t (i := 11) (oi := ⟨some 35, .binOp .xor 23 (.tmp 28) (.tmp 34) 23, 23, "keccak.go:40", #[⟨4, .data⟩, ⟨10, .data⟩], none⟩) (v := ?_) ?_ ?_
     rotate_left
     ·intro W hW; go_simp <;> with_reducible rfl
     try simp only [Act.put, putA, putB, putC]
     refine wpG_t (i := 12) (oi := ⟨some 6, .assign (.tmp 35), 23, "keccak.go:40", #[⟨11, .data⟩, ⟨10, .chain⟩, ⟨0, .phase⟩, ⟨1, .phase⟩, ⟨2, .phase⟩, ⟨3, .phase⟩, ⟨4, .phase⟩, ⟨5, .phase⟩, ⟨6, .phase⟩, ⟨7, .phase⟩, ⟨8, .phase⟩, ⟨9, .phase⟩, ⟨10, .phase⟩, ⟨11, .phase⟩], none⟩) (v := ?_) ?_ ?_
     rotate_left
     ·intro W hW; go_simp <;> with_reducible rfl
     try simp only [Act.put, putA, putB, putC]
     refine wpG_done (by kernel_rfl) ?_

     rw [HX.out]
     have hI5 := HI.out.drew
     have rs5 := HR.out.drew
     generalize q4 ^^^ turnN q1 1 = q at HTA HL
     clear HX h4 h1 c4 c1 HI HR v4 v1 t4 t1 u4 u1 b4 b1
     generalize wr.drew = wr1 at hI5 rs5
     clear wr
     go_wp2
     go_loopw [36] (fun i wr => ∃ Y : Nat, Y ≤ 5 ∧ i = .int .i64 Y ∧ KI w (thR f X Y) wr ∧ RowAt .u64 110 (w.heap.size + 2) 5 (sL f 25) wr) (fun i _ => 5 - (intOf i).toNat)
     case atStart => exact ⟨0, by omega, rfl, hI5, rs5⟩
     case round =>
      obtain ⟨Y, hY, rfl, hI6, rs6⟩ := hrel
      clear hI5 rs5
      by_cases hYlt : Y < 5
      ·have hd2 : decide ((Y : Int) < 5) = true := decide_eq_true (by omega)
       have hYI : (Y : Int) < 5 := by omega
       have hc := hI6.a.cell (j := X + 5 * Y) (by rw [stL_length]; omega)
       have hcf := hI6.a.free (X + 5 * Y)
       rw [stL_get _ _ (by omega), thR_get f X Y hlt] at hc
       have HT := HTA.out Y
       have HX : Hid _ := xorI (f (X + 5 * Y)) q (HF.out _) HL.out
       rw [HT] at HX
       have HS : Hid (∀ x : Int, x = ((thL f (X + 5 * Y) : Nat) : Int) → KI w (thR f X (Y + 1)) (wr.setCell ⟨w.heap.size, X + 5 * Y, none⟩ (.int .u64 x)) ∧ RowAt .u64 110 (w.heap.size + 2) 5 (sL f 25) (wr.setCell ⟨w.heap.size, X + 5 * Y, none⟩ (.int .u64 x))) := by
        intro x hx
        refine ⟨hI6.set _ x (by rw [hx]; exact thR_set f X Y hlt hYlt), rs6.wrote (Wrote.set _ _ wr _) (by omega)⟩
       generalize f (X + 5 * Y) = q0 at hc HX
       have w5 : IntKind.i64.wrap (5 * (Y : Int)) = 5 * (Y : Int) := IntWalk.i64_in _ (by omega)
       have wX : IntKind.i64.wrap ((X : Int) + 5 * (Y : Int)) = (X : Int) + 5 * (Y : Int) := IntWalk.i64_in _ (by omega)
       have nX : ((X : Int) + 5 * (Y : Int)).toNat = X + 5 * Y := by omega
       have pX : 0 ≤ (X : Int) + 5 * (Y : Int) := by omega
       have lX : (X : Int) + 5 * (Y : Int) < 25 := by omega
       clear hI6 rs6 HT
       go_wp2
       obtain ⟨hI7, rs7⟩ := HS.out _ HX.out
       go_roundw
       case rel => exact ⟨Y + 1, by omega, by go_num, hI7, rs7⟩
       case measure => simp [intOf]; omega
      ·have hYe : Y = 5 := by omega
       subst hYe
       have hI7 : KI w (thR f (X + 1) 0) wr := ⟨thR_next f X ▸ hI6.a, hI6.r, hI6.b, hI6.t, hI6.two⟩
       clear hI6
       go_wp2
       go_roundw
       case rel => exact ⟨X + 1, by omega, by go_num, hI7, rs6⟩
       case measure => simp [intOf]; omega
    ·have hXe : X = 5 := by omega
     subst hXe
     have r1 := hI4.a
     rw [thR_done] at r1
     have r2 := hI4.r
     go_wp2_with (first | refine wpList_load_row rfl 67 _ rfl rfl r1 _ Tryd.underlying67 rfl (arrInfo _) ?_ | (refine wpList_store_row rfl 67 _ _ rfl (stL (thL f)) rfl rfl r2 (by simp [stL_length]) (arrInfo _) ?_; intro w2 r3 hw))
     refine bodyPost_row (p := 2) (ty := 67) rfl rfl rfl r3 Tryd.underlying67 rfl (arrInfo _) ?_
     exact ⟨rfl, hw.below _ _ (by omega) hI4.b⟩
set_option maxRecDepth 100000 in
set_option maxHeartbeats 2000000 in
theorem kPi_any (A : Array Value) (f : Nat → Nat) (hf : ∀ i, f i < 18446744073709551616) (hA : A = ((stL f).map (Value.int .u64)).toArray) (w : World) (ht : Tabs w) :
  Calls Tryd.prog 88 #[.agg A] w fun e w' => e = .returned (arrV (piF f)) ∧ Below w.heap.size w w' := by
 have HA : Hid _ := hA
 have HF : Hid (∀ i, f i < 18446744073709551616) := hf
 clear hA hf
 go_enter Tryd.func88, Tryd.ntmps88
 go_wp2
 rw [HA.out]
 obtain ⟨W, hW, hI, hs⟩ := two_rows f w _ zeros25 ht
 rw [hW]
 clear hW ht
 have ro : RowAt .u64 67 (w.heap.size + 2) 25 (stL fun _ => 0) (W.alloc (.cells #[Value.int .u64 0, .int .u64 0, .int .u64 0, .int .u64 0, .int .u64 0, .int .u64 0, .int .u64 0, .int .u64 0, .int .u64 0, .int .u64 0, .int .u64 0, .int .u64 0, .int .u64 0, .int .u64 0, .int .u64 0, .int .u64 0, .int .u64 0, .int .u64 0, .int .u64 0, .int .u64 0, .int .u64 0, .int .u64 0, .int .u64 0, .int .u64 0, .int .u64 0] 67)) :=
  RowAt.fresh _ zeros25 hs.symm (stL_length _).symm (stL_ne _) (by rw [stL_length]; simp [maxLen])
 have hI1 := hI.alloc (.cells #[Value.int .u64 0, .int .u64 0, .int .u64 0, .int .u64 0, .int .u64 0, .int .u64 0, .int .u64 0, .int .u64 0, .int .u64 0, .int .u64 0, .int .u64 0, .int .u64 0, .int .u64 0, .int .u64 0, .int .u64 0, .int .u64 0, .int .u64 0, .int .u64 0, .int .u64 0, .int .u64 0, .int .u64 0, .int .u64 0, .int .u64 0, .int .u64 0, .int .u64 0] 67)
 generalize W.alloc (.cells #[Value.int .u64 0, .int .u64 0, .int .u64 0, .int .u64 0, .int .u64 0, .int .u64 0, .int .u64 0, .int .u64 0, .int .u64 0, .int .u64 0, .int .u64 0, .int .u64 0, .int .u64 0, .int .u64 0, .int .u64 0, .int .u64 0, .int .u64 0, .int .u64 0, .int .u64 0, .int .u64 0, .int .u64 0, .int .u64 0, .int .u64 0, .int .u64 0, .int .u64 0] 67) = W1 at ro hI1
 rw [upQ_zero (fun _ => 0) (piF f)] at ro
 clear hI hs
 go_loopw [6] (fun i wr => ∃ Y : Nat, Y ≤ 5 ∧ i = .int .i64 Y ∧ KI w f wr ∧ RowAt .u64 67 (w.heap.size + 2) 25 (stL (upQ (fun _ => 0) (piF f) (5 * Y))) wr) (fun i _ => 5 - (intOf i).toNat)
 case atStart => exact ⟨0, by omega, rfl, hI1, ro⟩
 case round =>
  obtain ⟨Y, hY, rfl, hI2, ro2⟩ := hrel
  clear hI1 ro
  by_cases hlt : Y < 5
  ·have hd : decide ((Y : Int) < 5) = true := decide_eq_true (by omega)
   have hYI : (Y : Int) < 5 := by omega
   go_wp2
   go_loopw [9] (fun i wr => ∃ X : Nat, X ≤ 5 ∧ i = .int .i64 X ∧ KI w f wr ∧ RowAt .u64 67 (w.heap.size + 2) 25 (stL (upQ (fun _ => 0) (piF f) (X + 5 * Y))) wr) (fun i _ => 5 - (intOf i).toNat)
   case atStart => exact ⟨0, by omega, rfl, hI2, by rw [Nat.zero_add]; exact ro2⟩
   case round =>
    obtain ⟨X, hX, rfl, hI3, ro3⟩ := hrel
    clear hI2 ro2
    by_cases hXlt : X < 5
    ·have hd2 : decide ((X : Int) < 5) = true := decide_eq_true (by omega)
     have hXI : (X : Int) < 5 := by omega
     obtain ⟨m, hm⟩ : ∃ m : Nat, m = (X + 3 * Y) % 5 := ⟨_, rfl⟩
     have bm : (m : Int) < 5 := by omega
     have hc := hI3.a.cell (j := m + 5 * X) (by rw [stL_length]; omega)
     rw [stL_get _ _ (by omega)] at hc
     have ho := ro3.cell (j := X + 5 * Y) (by rw [stL_length]; omega)
     have hof := ro3.free (X + 5 * Y)
     have HS : Hid (∀ x : Int, x = ((f (m + 5 * X) : Nat) : Int) → RowAt .u64 67 (w.heap.size + 2) 25 (stL (upQ (fun _ => 0) (piF f) (X + 1 + 5 * Y))) (wr.setCell ⟨w.heap.size + 2, X + 5 * Y, none⟩ (.int .u64 x)) ∧ KI w f (wr.setCell ⟨w.heap.size + 2, X + 5 * Y, none⟩ (.int .u64 x))) := by
      intro x hx
      refine ⟨?_, hI3.other (Wrote.set _ _ wr _) (Nat.le_refl _)⟩
      have e : f (m + 5 * X) = piF f (X + 5 * Y) := by
       unfold piF
       rw [show (X + 5 * Y) % 5 = X by omega, show (X + 5 * Y) / 5 = Y by omega, hm]
      rw [show X + 1 + 5 * Y = (X + 5 * Y) + 1 by omega, ← upQ_set, ← e, ← hx]
      exact ro3.set _ x
     generalize f (m + 5 * X) = q0 at hc HS
     generalize (stL (upQ (fun _ => 0) (piF f) (X + 5 * Y))).getD (X + 5 * Y) 0 = q1 at ho
     have w5 : IntKind.i64.wrap (5 * (Y : Int)) = 5 * (Y : Int) := IntWalk.i64_in _ (by omega)
     have wX : IntKind.i64.wrap ((X : Int) + 5 * (Y : Int)) = (X : Int) + 5 * (Y : Int) := IntWalk.i64_in _ (by omega)
     have nX : ((X : Int) + 5 * (Y : Int)).toNat = X + 5 * Y := by omega
     have pX : 0 ≤ (X : Int) + 5 * (Y : Int) := by omega
     have lX : (X : Int) + 5 * (Y : Int) < 25 := by omega
     have w3 : IntKind.i64.wrap (3 * (Y : Int)) = 3 * (Y : Int) := IntWalk.i64_in _ (by omega)
     have wS : IntKind.i64.wrap ((X : Int) + 3 * (Y : Int)) = (X : Int) + 3 * (Y : Int) := IntWalk.i64_in _ (by omega)
     have tS : ((X : Int) + 3 * (Y : Int)).tmod 5 = (m : Int) := by rw [Int.tmod_eq_emod_of_nonneg (by omega)]; omega
     have uS : ((X : Int) + 3 * (Y : Int)) % 5 = (m : Int) := by omega
     have w5X : IntKind.i64.wrap (5 * (X : Int)) = 5 * (X : Int) := IntWalk.i64_in _ (by omega)
     have wM : IntKind.i64.wrap ((m : Int) + 5 * (X : Int)) = (m : Int) + 5 * (X : Int) := IntWalk.i64_in _ (by omega)
     have nM : ((m : Int) + 5 * (X : Int)).toNat = m + 5 * X := by omega
     have pM : 0 ≤ (m : Int) + 5 * (X : Int) := by omega
     have lM : (m : Int) + 5 * (X : Int) < 25 := by omega
     clear hI3 ro3 hm
     go_wp2
     obtain ⟨ro4, hI4⟩ := HS.out _ rfl
     go_roundw
     case rel => exact ⟨X + 1, by omega, by go_num, hI4, ro4⟩
     case measure => simp [intOf]; omega
    ·have hXe : X = 5 := by omega
     subst hXe
     rw [show 5 + 5 * Y = 5 * (Y + 1) by omega] at ro3
     go_wp2
     go_roundw
     case rel => exact ⟨Y + 1, by omega, by go_num, hI3, ro3⟩
     case measure => simp [intOf]; omega
  ·have hYe : Y = 5 := by omega
   subst hYe
   have r1 := ro2
   rw [upQ_done] at r1
   have r2 := hI2.r
   go_wp2_with (first | refine wpList_load_row rfl 67 _ rfl rfl r1 _ Tryd.underlying67 rfl (arrInfo _) ?_ | (refine wpList_store_row rfl 67 _ _ rfl (stL (piF f)) rfl rfl r2 (by simp [stL_length]) (arrInfo _) ?_; intro w2 r3 hw))
   refine bodyPost_row (p := 2) (ty := 67) rfl rfl rfl r3 Tryd.underlying67 rfl (arrInfo _) ?_
   exact ⟨rfl, hw.below _ _ (by omega) hI2.b⟩

theorem chi_val (f : Nat → Nat) (hf : ∀ i, f i < 18446744073709551616) (X Y : Nat) (hX : X < 5) (m1 m2 : Nat) (h1 : m1 = (X + 1) % 5) (h2 : m2 = (X + 2) % 5) :
  bits .xor .u64 ((f (5 * Y + X) : Nat) : Int) (bits .and .u64 (bits .xor .u64 (if IntKind.u64.signed = true then -1 else IntKind.u64.max) ((f (5 * Y + m1) : Nat) : Int)) ((f (5 * Y + m2) : Nat) : Int)) = ((chL f (5 * Y + X) : Nat) : Int) := by
 have e1 : 5 * Y + X - (5 * Y + X) % 5 + ((5 * Y + X) % 5 + 1) % 5 = 5 * Y + m1 := by omega
 have e2 : 5 * Y + X - (5 * Y + X) % 5 + ((5 * Y + X) % 5 + 2) % 5 = 5 * Y + m2 := by omega
 unfold chL
 rw [e1, e2, sub_and]
 have b1 := hf (5 * Y + m1)
 have b2 := hf (5 * Y + m2)
 have b0 := hf (5 * Y + X)
 generalize f (5 * Y + m1) = p at b1
 generalize f (5 * Y + m2) = q at b2
 generalize f (5 * Y + X) = r at b0
 have en : bits .xor .u64 (if IntKind.u64.signed = true then -1 else IntKind.u64.max) (p : Int) = ((18446744073709551615 ^^^ p : Nat) : Int) := xorI 18446744073709551615 p (by decide) b1
 rw [en, andI _ _ (xor_lt64 (by decide) b1) b2]
 have ea : (18446744073709551615 ^^^ p) &&& q = q ^^^ (q &&& p) := by
  apply Nat.eq_of_testBit_eq
  intro i
  rw [Nat.testBit_and, Nat.testBit_xor, Nat.testBit_xor, Nat.testBit_and, show (18446744073709551615 : Nat) = 2 ^ 64 - 1 from rfl, Nat.testBit_two_pow_sub_one]
  by_cases hi : i < 64
  ·simp only [hi, decide_true]
   cases p.testBit i <;> cases q.testBit i <;> rfl
  ·have hq : q.testBit i = false := Nat.testBit_lt_two_pow (Nat.lt_of_lt_of_le b2 (Nat.pow_le_pow_right (show 0 < 2 by decide) (by omega : 64 ≤ i)))
   rw [hq]
   simp
 rw [ea, xorI _ _ b0 (by
  have h : q &&& p ≤ q := Nat.and_le_left
  exact xor_lt64 b2 (by omega))]

set_option maxRecDepth 100000 in
set_option maxHeartbeats 2000000 in
theorem kChi_any (A : Array Value) (f : Nat → Nat) (hf : ∀ i, f i < 18446744073709551616) (hA : A = ((stL f).map (Value.int .u64)).toArray) (w : World) (ht : Tabs w) :
  Calls Tryd.prog 87 #[.agg A] w fun e w' => e = .returned (arrV (chL f)) ∧ Below w.heap.size w w' := by
 have HA : Hid _ := hA
 have HF : Hid (∀ i, f i < 18446744073709551616) := hf
 clear hA hf
 go_enter Tryd.func87, Tryd.ntmps87
 go_wp2
 rw [HA.out]
 obtain ⟨W, hW, hI, hs⟩ := two_rows f w _ zeros25 ht
 rw [hW]
 clear hW ht
 have ro : RowAt .u64 67 (w.heap.size + 2) 25 (stL fun _ => 0) (W.alloc (.cells #[Value.int .u64 0, .int .u64 0, .int .u64 0, .int .u64 0, .int .u64 0, .int .u64 0, .int .u64 0, .int .u64 0, .int .u64 0, .int .u64 0, .int .u64 0, .int .u64 0, .int .u64 0, .int .u64 0, .int .u64 0, .int .u64 0, .int .u64 0, .int .u64 0, .int .u64 0, .int .u64 0, .int .u64 0, .int .u64 0, .int .u64 0, .int .u64 0, .int .u64 0] 67)) :=
  RowAt.fresh _ zeros25 hs.symm (stL_length _).symm (stL_ne _) (by rw [stL_length]; simp [maxLen])
 have hI1 := hI.alloc (.cells #[Value.int .u64 0, .int .u64 0, .int .u64 0, .int .u64 0, .int .u64 0, .int .u64 0, .int .u64 0, .int .u64 0, .int .u64 0, .int .u64 0, .int .u64 0, .int .u64 0, .int .u64 0, .int .u64 0, .int .u64 0, .int .u64 0, .int .u64 0, .int .u64 0, .int .u64 0, .int .u64 0, .int .u64 0, .int .u64 0, .int .u64 0, .int .u64 0, .int .u64 0] 67)
 generalize W.alloc (.cells #[Value.int .u64 0, .int .u64 0, .int .u64 0, .int .u64 0, .int .u64 0, .int .u64 0, .int .u64 0, .int .u64 0, .int .u64 0, .int .u64 0, .int .u64 0, .int .u64 0, .int .u64 0, .int .u64 0, .int .u64 0, .int .u64 0, .int .u64 0, .int .u64 0, .int .u64 0, .int .u64 0, .int .u64 0, .int .u64 0, .int .u64 0, .int .u64 0, .int .u64 0] 67) = W1 at ro hI1
 rw [upQ_zero (fun _ => 0) (chL f)] at ro
 clear hI hs
 go_loopw [7] (fun i wr => ∃ Y : Nat, Y ≤ 5 ∧ i = .int .i64 Y ∧ KI w f wr ∧ RowAt .u64 67 (w.heap.size + 2) 25 (stL (upQ (fun _ => 0) (chL f) (5 * Y))) wr) (fun i _ => 5 - (intOf i).toNat)
 case atStart => exact ⟨0, by omega, rfl, hI1, ro⟩
 case round =>
  obtain ⟨Y, hY, rfl, hI2, ro2⟩ := hrel
  clear hI1 ro
  by_cases hlt : Y < 5
  ·have hd : decide ((Y : Int) < 5) = true := decide_eq_true (by omega)
   have hYI : (Y : Int) < 5 := by omega
   have w5 : IntKind.i64.wrap (5 * (Y : Int)) = 5 * (Y : Int) := IntWalk.i64_in _ (by omega)
   go_wp2
   go_loopw [12] (fun i wr => ∃ X : Nat, X ≤ 5 ∧ i = .int .i64 X ∧ KI w f wr ∧ RowAt .u64 67 (w.heap.size + 2) 25 (stL (upQ (fun _ => 0) (chL f) (5 * Y + X))) wr) (fun i _ => 5 - (intOf i).toNat)
   case atStart => exact ⟨0, by omega, rfl, hI2, ro2⟩
   case round =>
    obtain ⟨X, hX, rfl, hI3, ro3⟩ := hrel
    clear hI2 ro2
    by_cases hXlt : X < 5
    ·have hd2 : decide ((X : Int) < 5) = true := decide_eq_true (by omega)
     have hXI : (X : Int) < 5 := by omega
     obtain ⟨m1, hm1⟩ : ∃ m : Nat, m = (X + 1) % 5 := ⟨_, rfl⟩
     obtain ⟨m2, hm2⟩ : ∃ m : Nat, m = (X + 2) % 5 := ⟨_, rfl⟩
     have b1 : (m1 : Int) < 5 := by omega
     have b2 : (m2 : Int) < 5 := by omega
     have hc := hI3.a.cell (j := 5 * Y + X) (by rw [stL_length]; omega)
     have hc1 := hI3.a.cell (j := 5 * Y + m1) (by rw [stL_length]; omega)
     have hc2 := hI3.a.cell (j := 5 * Y + m2) (by rw [stL_length]; omega)
     rw [stL_get _ _ (by omega)] at hc hc1 hc2
     have ho := ro3.cell (j := 5 * Y + X) (by rw [stL_length]; omega)
     have hof := ro3.free (5 * Y + X)
     have HX : Hid _ := chi_val f HF.out X Y hXlt m1 m2 hm1 hm2
     have HS : Hid (∀ x : Int, x = ((chL f (5 * Y + X) : Nat) : Int) → RowAt .u64 67 (w.heap.size + 2) 25 (stL (upQ (fun _ => 0) (chL f) (5 * Y + (X + 1)))) (wr.setCell ⟨w.heap.size + 2, 5 * Y + X, none⟩ (.int .u64 x)) ∧ KI w f (wr.setCell ⟨w.heap.size + 2, 5 * Y + X, none⟩ (.int .u64 x))) := by
      intro x hx
      refine ⟨?_, hI3.other (Wrote.set _ _ wr _) (Nat.le_refl _)⟩
      rw [show 5 * Y + (X + 1) = (5 * Y + X) + 1 by omega, ← upQ_set, ← hx]
      exact ro3.set _ x
     generalize f (5 * Y + X) = q0 at hc HX
     generalize f (5 * Y + m1) = q1 at hc1 HX
     generalize f (5 * Y + m2) = q2 at hc2 HX
     generalize (stL (upQ (fun _ => 0) (chL f) (5 * Y + X))).getD (5 * Y + X) 0 = q3 at ho
     have v1 : IntKind.i64.wrap ((X : Int) + 1) = (X : Int) + 1 := IntWalk.i64_in _ (by omega)
     have v2 : IntKind.i64.wrap ((X : Int) + 2) = (X : Int) + 2 := IntWalk.i64_in _ (by omega)
     have t1 : ((X : Int) + 1).tmod 5 = (m1 : Int) := by rw [Int.tmod_eq_emod_of_nonneg (by omega)]; omega
     have t2 : ((X : Int) + 2).tmod 5 = (m2 : Int) := by rw [Int.tmod_eq_emod_of_nonneg (by omega)]; omega
     have u1 : ((X : Int) + 1) % 5 = (m1 : Int) := by omega
     have u2 : ((X : Int) + 2) % 5 = (m2 : Int) := by omega
     have wX : IntKind.i64.wrap (5 * (Y : Int) + (X : Int)) = 5 * (Y : Int) + (X : Int) := IntWalk.i64_in _ (by omega)
     have w1 : IntKind.i64.wrap (5 * (Y : Int) + (m1 : Int)) = 5 * (Y : Int) + (m1 : Int) := IntWalk.i64_in _ (by omega)
     have w2 : IntKind.i64.wrap (5 * (Y : Int) + (m2 : Int)) = 5 * (Y : Int) + (m2 : Int) := IntWalk.i64_in _ (by omega)
     have nX : (5 * (Y : Int) + (X : Int)).toNat = 5 * Y + X := by omega
     have n1 : (5 * (Y : Int) + (m1 : Int)).toNat = 5 * Y + m1 := by omega
     have n2 : (5 * (Y : Int) + (m2 : Int)).toNat = 5 * Y + m2 := by omega
     have pX : 0 ≤ 5 * (Y : Int) + (X : Int) := by omega
     have p1 : 0 ≤ 5 * (Y : Int) + (m1 : Int) := by omega
     have p2 : 0 ≤ 5 * (Y : Int) + (m2 : Int) := by omega
     have lX : 5 * (Y : Int) + (X : Int) < 25 := by omega
     have l1 : 5 * (Y : Int) + (m1 : Int) < 25 := by omega
     have l2 : 5 * (Y : Int) + (m2 : Int) < 25 := by omega
     clear hI3 ro3 hm1 hm2
     go_wp2_with fail
     refine wpE_begin 26 (by kernel_rfl) ?_
     refine wpE_t (i := 0) (oi := ⟨some 15, .move (.tmp 5), 3, "keccak.go:73", #[], none⟩) (v := ?_) ?_ ?_
     rotate_left
     ·intro W hW; go_simp <;> with_reducible rfl
     try simp only [Act.put, putA, putB, putC]
     refine wpE_t (i := 1) (oi := ⟨some 16, .move (.tmp 6), 3, "keccak.go:73", #[], none⟩) (v := ?_) ?_ ?_
     rotate_left
     ·intro W hW; go_simp <;> with_reducible rfl
     try simp only [Act.put, putA, putB, putC]
     refine wpE_t (i := 2) (oi := ⟨some 17, .binOp .add 3 (.tmp 15) (.tmp 16) 3, 3, "keccak.go:73", #[⟨0, .data⟩, ⟨1, .data⟩], none⟩) (v := ?_) ?_ ?_
     rotate_left
     ·intro W hW; go_simp <;> with_reducible rfl
     try simp only [Act.put, putA, putB, putC]
     refine wpE_t (i := 3) (oi := ⟨some 18, .move (.tmp 5), 3, "keccak.go:73", #[], none⟩) (v := ?_) ?_ ?_
     rotate_left
     ·intro W hW; go_simp <;> with_reducible rfl
     try simp only [Act.put, putA, putB, putC]
     refine wpE_t (i := 4) (oi := ⟨some 19, .move (.tmp 6), 3, "keccak.go:73", #[], none⟩) (v := ?_) ?_ ?_
     rotate_left
     ·intro W hW; go_simp <;> with_reducible rfl
     try simp only [Act.put, putA, putB, putC]
     refine wpE_t (i := 5) (oi := ⟨some 20, .binOp .add 3 (.tmp 18) (.tmp 19) 3, 3, "keccak.go:73", #[⟨3, .data⟩, ⟨4, .data⟩], none⟩) (v := ?_) ?_ ?_
     rotate_left
     ·intro W hW; go_simp <;> with_reducible rfl
     try simp only [Act.put, putA, putB, putC]
     refine wpE_t (i := 6) (oi := ⟨some 21, .indexAddr 67 (.tmp 1) (.tmp 20), 0, "keccak.go:73", #[⟨5, .data⟩], none⟩) (v := ?_) ?_ ?_
     rotate_left
     ·intro W hW; go_simp <;> with_reducible rfl
     try simp only [Act.put, putA, putB, putC]
     refine wpE_t (i := 7) (oi := ⟨some 22, .load 23 (.tmp 21), 23, "keccak.go:73", #[⟨6, .data⟩], none⟩) (v := ?_) ?_ ?_
     rotate_left
     ·intro W hW; have hcW := cellU hc hW; go_simp <;> with_reducible rfl
     try simp only [Act.put, putA, putB, putC]
     refine wpE_t (i := 8) (oi := ⟨some 23, .move (.tmp 5), 3, "keccak.go:73", #[], none⟩) (v := ?_) ?_ ?_
     rotate_left
     ·intro W hW; go_simp <;> with_reducible rfl
     try simp only [Act.put, putA, putB, putC]
     refine wpE_t (i := 9) (oi := ⟨some 24, .move (.tmp 6), 3, "keccak.go:73", #[], none⟩) (v := ?_) ?_ ?_
     rotate_left
     ·intro W hW; go_simp <;> with_reducible rfl
     try simp only [Act.put, putA, putB, putC]
     refine wpE_t (i := 10) (oi := ⟨some 25, .binOp .add 3 (.tmp 24) (.const (.int .i64 1)) 3, 3, "keccak.go:73", #[⟨9, .data⟩], none⟩) (v := ?_) ?_ ?_
     rotate_left
     ·intro W hW; go_simp <;> with_reducible rfl
     try simp only [Act.put, putA, putB, putC]
     refine wpE_t (i := 11) (oi := ⟨some 26, .binOp .rem 3 (.tmp 25) (.const (.int .i64 5)) 3, 3, "keccak.go:73", #[⟨10, .data⟩], none⟩) (v := ?_) ?_ ?_
     rotate_left
     ·intro W hW; go_simp <;> with_reducible rfl
     try simp only [Act.put, putA, putB, putC]
     refine wpE_t (i := 12) (oi := ⟨some 27, .binOp .add 3 (.tmp 23) (.tmp 26) 3, 3, "keccak.go:73", #[⟨8, .data⟩, ⟨11, .data⟩], none⟩) (v := ?_) ?_ ?_
     rotate_left
     ·intro W hW; go_simp <;> with_reducible rfl
     try simp only [Act.put, putA, putB, putC]
     refine wpE_t (i := 13) (oi := ⟨some 28, .indexAddr 67 (.tmp 1) (.tmp 27), 0, "keccak.go:73", #[⟨12, .data⟩], none⟩) (v := ?_) ?_ ?_
     rotate_left
     ·intro W hW; go_simp <;> with_reducible rfl
     try simp only [Act.put, putA, putB, putC]
     refine wpE_t (i := 14) (oi := ⟨some 29, .load 23 (.tmp 28), 23, "keccak.go:73", #[⟨13, .data⟩], none⟩) (v := ?_) ?_ ?_
     rotate_left
     ·intro W hW; have hcW := cellU hc1 hW; go_simp <;> with_reducible rfl
     try simp only [Act.put, putA, putB, putC]
     refine wpE_t (i := 15) (oi := ⟨some 30, .unOp .xor 23 (.tmp 29), 23, "keccak.go:73", #[⟨14, .data⟩], none⟩) (v := ?_) ?_ ?_
     rotate_left
     ·intro W hW; go_simp <;> with_reducible rfl
     try simp only [Act.put, putA, putB, putC]
     refine wpE_t (i := 16) (oi := ⟨some 31, .move (.tmp 5), 3, "keccak.go:73", #[], none⟩) (v := ?_) ?_ ?_
     rotate_left
     ·intro W hW; go_simp <;> with_reducible rfl
     try simp only [Act.put, putA, putB, putC]
     refine wpE_t (i := 17) (oi := ⟨some 32, .move (.tmp 6), 3, "keccak.go:73", #[], none⟩) (v := ?_) ?_ ?_
     rotate_left
     ·intro W hW; go_simp <;> with_reducible rfl
     try simp only [Act.put, putA, putB, putC]
     refine wpE_t (i := 18) (oi := ⟨some 33, .binOp .add 3 (.tmp 32) (.const (.int .i64 2)) 3, 3, "keccak.go:73", #[⟨17, .data⟩], none⟩) (v := ?_) ?_ ?_
     rotate_left
     ·intro W hW; go_simp <;> with_reducible rfl
     try simp only [Act.put, putA, putB, putC]
     refine wpE_t (i := 19) (oi := ⟨some 34, .binOp .rem 3 (.tmp 33) (.const (.int .i64 5)) 3, 3, "keccak.go:73", #[⟨18, .data⟩], none⟩) (v := ?_) ?_ ?_
     rotate_left
     ·intro W hW; go_simp <;> with_reducible rfl
     try simp only [Act.put, putA, putB, putC]
     refine wpE_t (i := 20) (oi := ⟨some 35, .binOp .add 3 (.tmp 31) (.tmp 34) 3, 3, "keccak.go:73", #[⟨16, .data⟩, ⟨19, .data⟩], none⟩) (v := ?_) ?_ ?_
     rotate_left
     ·intro W hW; go_simp <;> with_reducible rfl
     try simp only [Act.put, putA, putB, putC]
     refine wpE_t (i := 21) (oi := ⟨some 36, .indexAddr 67 (.tmp 1) (.tmp 35), 0, "keccak.go:73", #[⟨20, .data⟩], none⟩) (v := ?_) ?_ ?_
     rotate_left
     ·intro W hW; go_simp <;> with_reducible rfl
     try simp only [Act.put, putA, putB, putC]
     refine wpE_t (i := 22) (oi := ⟨some 37, .load 23 (.tmp 36), 23, "keccak.go:73", #[⟨21, .data⟩], none⟩) (v := ?_) ?_ ?_
     rotate_left
     ·intro W hW; have hcW := cellU hc2 hW; go_simp <;> with_reducible rfl
     try simp only [Act.put, putA, putB, putC]
     refine wpE_t (i := 23) (oi := ⟨some 38, .binOp .and 23 (.tmp 30) (.tmp 37) 23, 23, "keccak.go:73", #[⟨15, .data⟩, ⟨22, .data⟩], none⟩) (v := ?_) ?_ ?_
     rotate_left
     ·intro W hW; go_simp <;> with_reducible rfl
     try simp only [Act.put, putA, putB, putC]
     refine wpE_t (i := 24) (oi := ⟨some 39, .binOp .xor 23 (.tmp 22) (.tmp 38) 23, 23, "keccak.go:73", #[⟨7, .data⟩, ⟨23, .data⟩], none⟩) (v := ?_) ?_ ?_
     rotate_left
     ·intro W hW; go_simp <;> with_reducible rfl
     try simp only [Act.put, putA, putB, putC]
     refine wpE_t (i := 25) (oi := ⟨some 40, .indexAddr 67 (.tmp 3) (.tmp 17), 0, "keccak.go:73", #[⟨2, .data⟩, ⟨0, .phase⟩, ⟨1, .phase⟩, ⟨2, .phase⟩, ⟨3, .phase⟩, ⟨4, .phase⟩, ⟨5, .phase⟩, ⟨6, .phase⟩, ⟨7, .phase⟩, ⟨8, .phase⟩, ⟨9, .phase⟩, ⟨10, .phase⟩, ⟨11, .phase⟩, ⟨12, .phase⟩, ⟨13, .phase⟩, ⟨14, .phase⟩, ⟨15, .phase⟩, ⟨16, .phase⟩, ⟨17, .phase⟩, ⟨18, .phase⟩, ⟨19, .phase⟩, ⟨20, .phase⟩, ⟨21, .phase⟩, ⟨22, .phase⟩, ⟨23, .phase⟩, ⟨24, .phase⟩], none⟩) (v := ?_) ?_ ?_
     rotate_left
     ·intro W hW; go_simp <;> with_reducible rfl
     try simp only [Act.put, putA, putB, putC]
     refine wpE_last (o := ⟨none, .store 23 (.tmp 40) (.tmp 39), 0, "keccak.go:73", #[⟨25, .data⟩, ⟨24, .data⟩, ⟨0, .phase⟩, ⟨1, .phase⟩, ⟨2, .phase⟩, ⟨3, .phase⟩, ⟨4, .phase⟩, ⟨5, .phase⟩, ⟨6, .phase⟩, ⟨7, .phase⟩, ⟨8, .phase⟩, ⟨9, .phase⟩, ⟨10, .phase⟩, ⟨11, .phase⟩, ⟨12, .phase⟩, ⟨13, .phase⟩, ⟨14, .phase⟩, ⟨15, .phase⟩, ⟨16, .phase⟩, ⟨17, .phase⟩, ⟨18, .phase⟩, ⟨19, .phase⟩, ⟨20, .phase⟩, ⟨21, .phase⟩, ⟨22, .phase⟩, ⟨23, .phase⟩, ⟨24, .phase⟩], none⟩) (by kernel_rfl) (by kernel_rfl) rfl (by rfl) fun K hK => ?_
     go_simp
     refine hK.out _ _ ?_
     clear hK K
     try simp only [Act.put, putA, putB, putC]

     obtain ⟨ro4, hI4⟩ := HS.out _ HX.out
     have hI5 := hI4.drew
     have ro5 := ro4.drew
     go_wp2
     go_roundw
     case rel => exact ⟨X + 1, by omega, by go_num, hI5, ro5⟩
     case measure => simp [intOf]; omega
    ·have hXe : X = 5 := by omega
     subst hXe
     rw [show 5 * Y + 5 = 5 * (Y + 1) by omega] at ro3
     go_wp2
     go_roundw
     case rel => exact ⟨Y + 1, by omega, by go_num, hI3, ro3⟩
     case measure => simp [intOf]; omega
  ·have hYe : Y = 5 := by omega
   subst hYe
   have r1 := ro2
   rw [upQ_done] at r1
   have r2 := hI2.r
   go_wp2_with (first | refine wpList_load_row rfl 67 _ rfl rfl r1 _ Tryd.underlying67 rfl (arrInfo _) ?_ | (refine wpList_store_row rfl 67 _ _ rfl (stL (chL f)) rfl rfl r2 (by simp [stL_length]) (arrInfo _) ?_; intro w2 r3 hw))
   refine bodyPost_row (p := 2) (ty := 67) rfl rfl rfl r3 Tryd.underlying67 rfl (arrInfo _) ?_
   exact ⟨rfl, hw.below _ _ (by omega) hI2.b⟩
theorem rdL_congr {f g : Nat → Nat} (hf : ∀ i, f i < 18446744073709551616) (hg : ∀ i, g i < 18446744073709551616) (h : ∀ i, i < 25 → f i = g i) (n : Nat) (hn : n < 24) (k : Nat) (hk : k < 25) : rdL f n k = rdL g n k := by
 rw [rdL_eq f hf n hn k hk, rdL_eq g hg n hn k hk]
 exact rdF_congr h n k hk
theorem cells64 : Tryd.prog.cellsOf 23 = 1 := by kernel_rfl
theorem eq_states (f g : Nat → Nat) (A B : Array Value) (hA : A = ((stL f).map (Value.int .u64)).toArray) (hB : B = ((stL g).map (Value.int .u64)).toArray) (w : World) :
  (Op.equalIn 10000 67 (.agg A) (.agg B)).run Tryd.prog w = .ok (decide (stL f = stL g)) w := by
 subst hA hB
 exact run_equal_row w 9998 Tryd.underlying67 Tryd.underlying23 cells64 _ _ (stL_length f) (stL_length g)

set_option maxHeartbeats 1000000 in
theorem kRound_in (A : Array Value) (f : Nat → Nat) (hf : ∀ i, f i < 18446744073709551616) (hA : A = ((stL f).map (Value.int .u64)).toArray) (n : Nat) (hlt : n < 24) (w : World) (ht : Tabs w) :
  Calls Tryd.prog 81 #[.agg A, .int .i64 (n : Int)] w fun e w' => e = .returned (arrV (rdL f n)) ∧ Below w.heap.size w w' := by
 have hr : decide (0 ≤ (n : Int) ∧ (n : Int) ≤ 23) = true := decide_eq_true (by omega)
 have HA : Hid _ := hA
 have HF : Hid (∀ i, f i < 18446744073709551616) := hf
 clear hA hf
 have hio : ∀ g : Nat → Nat, ioI g (n : Int) = ioK g n := fun g => by unfold ioI; rw [if_pos (by omega), Int.toNat_natCast]
 have HIO : Hid _ := hio
 clear hio
 go_enter Tryd.func81, Tryd.ntmps81
 go_wp2_with fail
 rw [HA.out]
 obtain ⟨W, hW, hI, hs⟩ := two_rows f w _ zeros25 ht
 rw [hW]
 clear hW ht
 refine (isRound_any _ _).mono ?_
 rintro e w1 ⟨rfl, rfl⟩
 rw [hr]
 clear hr
 have r1 := hI.a
 have hq := eq_states f (fun _ => 0) _ _ rfl zeros25 w1
 by_cases hz : stL f = stL (fun _ => 0)
 ·rw [decide_eq_true hz] at hq
  have HZ : Hid _ := hz
  clear hz
  go_wp2_with (refine wpList_load_row rfl 67 _ rfl rfl r1 _ Tryd.underlying67 rfl (arrInfo _) ?_)
  refine (kIota_any _ (fun _ => 0) (fun _ => by decide) (by rw [HZ.out]) _ _ hI.t).mono ?_
  rintro e w2 ⟨rfl, hB⟩
  rw [HIO.out]
  have hI2 := hI.kept hB
  have r2 := hI2.r
  clear hq r1 hI hs hB
  go_wp2_with ((refine wpList_store_row rfl 67 _ _ rfl (stL (ioK (fun _ => 0) n)) rfl rfl r2 (by simp [stL_length]) (arrInfo _) ?_; intro w3 r3 hw))
  refine bodyPost_row (p := 4) (ty := 67) rfl rfl rfl r3 Tryd.underlying67 rfl (arrInfo _) ?_
  refine ⟨?_, hw.below _ _ (by omega) hI2.b⟩
  have e : stL (ioK (fun _ => 0) n) = stL (rdL f n) := by
   rw [← rdL_noughts]
   exact stL_congr fun k hk => rdL_congr (fun _ => by decide) HF.out (fun i hi => (stL_inj HZ.out i hi).symm) n hlt k hk
  show Ending.returned (.agg ((stL (ioK (fun _ => 0) n)).map (Value.int .u64)).toArray) = _
  rw [e]
 ·rw [decide_eq_false hz] at hq
  clear hz
  go_wp2_with (refine wpList_load_row rfl 67 _ rfl rfl r1 _ Tryd.underlying67 rfl (arrInfo _) ?_)
  refine (kTheta_any _ f HF.out rfl _ hI.t).mono ?_
  rintro e w2 ⟨rfl, hB⟩
  have hI2 := hI.kept hB
  clear hq r1 hI hs hB
  go_wp2_with fail
  refine (kRho_any _ (thL f) (thL_lt f HF.out) rfl _ hI2.t).mono ?_
  rintro e w3 ⟨rfl, hB⟩
  have hI3 := hI2.kept hB
  clear hI2 hB
  go_wp2_with fail
  refine (kPi_any _ (rhL (thL f)) (rhL_lt _ (thL_lt f HF.out)) rfl _ hI3.t).mono ?_
  rintro e w4 ⟨rfl, hB⟩
  have hI4 := hI3.kept hB
  clear hI3 hB
  go_wp2_with fail
  refine (kChi_any _ (piF (rhL (thL f))) (piF_lt _ (rhL_lt _ (thL_lt f HF.out))) rfl _ hI4.t).mono ?_
  rintro e w5 ⟨rfl, hB⟩
  have hI5 := hI4.kept hB
  clear hI4 hB
  go_wp2_with fail
  refine (kIota_any _ (chL (piF (rhL (thL f)))) (chL_lt _ (piF_lt _ (rhL_lt _ (thL_lt f HF.out)))) rfl _ _ hI5.t).mono ?_
  rintro e w6 ⟨rfl, hB⟩
  rw [HIO.out]
  have hI6 := hI5.kept hB
  have r2 := hI6.r
  clear hI5 hB
  go_wp2_with ((refine wpList_store_row rfl 67 _ _ rfl (stL (rdL f n)) rfl rfl r2 (by simp [stL_length]) (arrInfo _) ?_; intro w7 r3 hw))
  refine bodyPost_row (p := 4) (ty := 67) rfl rfl rfl r3 Tryd.underlying67 rfl (arrInfo _) ?_
  exact ⟨rfl, hw.below _ _ (by omega) hI6.b⟩
set_option maxHeartbeats 1000000 in
theorem kF_any (A : Array Value) (f : Nat → Nat) (hf : ∀ i, f i < 18446744073709551616) (hA : A = ((stL f).map (Value.int .u64)).toArray) (w : World) (ht : Tabs w) :
  Calls Tryd.prog 69 #[.agg A] w fun e w' => e = .returned (arrV (rdsL f 24)) ∧ Below w.heap.size w w' := by
 have HA : Hid _ := hA
 have HF : Hid (∀ i, f i < 18446744073709551616) := hf
 clear hA hf
 go_enter Tryd.func69, Tryd.ntmps69
 go_wp2
 rw [HA.out]
 obtain ⟨W, hW, hI, hs⟩ := two_rows f w _ zeros25 ht
 rw [hW]
 clear hW ht
 go_loopw [4] (fun i wr => ∃ j : Nat, j ≤ 24 ∧ i = .int .i64 j ∧ KI w (rdsL f j) wr) (fun i _ => 24 - (intOf i).toNat)
 case atStart => exact ⟨0, by omega, rfl, hI⟩
 case round =>
  obtain ⟨j, hj, rfl, hI2⟩ := hrel
  clear hI hs
  by_cases hlt : j < 24
  ·have hd : decide ((j : Int) < 24) = true := decide_eq_true (by omega)
   have hjI : (j : Int) < 24 := by omega
   have r1 := hI2.a
   go_wp2_with (refine wpList_load_row rfl 67 _ rfl rfl r1 _ Tryd.underlying67 rfl (arrInfo _) ?_)
   refine (kRound_in _ (rdsL f j) (rdsL_lt f HF.out j (by omega)) rfl j hlt _ hI2.t).mono ?_
   rintro e w2 ⟨rfl, hB⟩
   have hI3 := hI2.kept hB
   have r2 := hI3.a
   clear r1 hI2 hB
   go_wp2_with ((refine wpList_store_row rfl 67 _ _ rfl (stL (rdL (rdsL f j) j)) rfl rfl r2 (by simp [stL_length]) (arrInfo _) ?_; intro w3 r3 hw))
   have hI4 : KI w (rdsL f (j + 1)) w3 := hI3.whole r3 hw
   go_roundw
   case rel => exact ⟨j + 1, by omega, by go_num, hI4⟩
   case measure => simp [intOf]; omega
  ·have hje : j = 24 := by omega
   subst hje
   have r1 := hI2.a
   have r2 := hI2.r
   go_wp2_with (first | refine wpList_load_row rfl 67 _ rfl rfl r1 _ Tryd.underlying67 rfl (arrInfo _) ?_ | (refine wpList_store_row rfl 67 _ _ rfl (stL (rdsL f 24)) rfl rfl r2 (by simp [stL_length]) (arrInfo _) ?_; intro w2 r3 hw))
   refine bodyPost_row (p := 2) (ty := 67) rfl rfl rfl r3 Tryd.underlying67 rfl (arrInfo _) ?_
   exact ⟨rfl, hw.below _ _ (by omega) hI2.b⟩
end Go.Proofs.YtdlmmcilembjgaaDoor

namespace Go.Proofs.YtdlmmcilembjgaaDoor
set_option linter.unusedSimpArgs false
set_option linter.unusedVariables false
def evS (l : List Nat) (k : Nat) : Nat := l.getD k 0
theorem evS_step (f : Nat → Nat) (i : Nat) (hi : i < 24) (l m : List Nat) (hl : ∀ k, evS l k < 18446744073709551616) (hs : ∀ k, k < 25 → rdL (evS l) i k = evS m k) (h : ∀ k, k < 25 → rdsF f i k = evS l k) : ∀ k, k < 25 → rdsF f (i + 1) k = evS m k :=
 fun k hk => (rdF_congr h i k hk).trans ((rdL_eq (evS l) hl i hi k hk).symm.trans (hs k hk))
end Go.Proofs.YtdlmmcilembjgaaDoor

namespace Go.Proofs.YtdlmmcilembjgaaDoor
open Go.ChangeShapes Go.WideShapes Go.ChangeAt Go.RowKit
set_option linter.unusedSimpArgs false
set_option linter.unusedVariables false

theorem max25 {f : Nat → Nat} : (stL f).length ≤ maxLen := by rw [stL_length]; simp [maxLen]
structure St (w0 : World) (L : List (Nat × (Nat → Nat))) (w : World) : Prop where
 rows : ∀ p ∈ L, RowAt .u64 67 p.1 25 (stL p.2) w
 b : Below w0.heap.size w0 w
 t : Tabs w
theorem St.kept {w0 w w' : World} {L : List (Nat × (Nat → Nat))} (h : St w0 L w) (hb : Below w.heap.size w w') : St w0 L w' := ⟨fun p hp => (h.rows p hp).kept hb, stepB h.b hb, h.t.kept hb⟩
theorem St.step {w0 w w' : World} {o : Obj} {L : List (Nat × (Nat → Nat))} {F : Nat → Nat} (h : St w0 L w) (hr : RowAt .u64 67 w.heap.size 25 (stL F) w') (hw : Wrote w.heap.size (w.alloc o) w') : St w0 ((w.heap.size, F) :: L) w' := by
 have h1 := h.kept (growB o)
 refine ⟨fun p hp => ?_, hw.below _ _ h.b.size h1.b, h1.t.wrote hw h.t.two⟩
 rcases List.mem_cons.1 hp with rfl | hp
 ·exact hr
 ·refine (h1.rows p hp).wrote hw ?_
  have := (h.rows p hp).lt
  omega
theorem St.fresh {w : World} {cs : Array Value} {F : Nat → Nat} (ht : Tabs w) (h : cs = ((stL F).map (Value.int .u64)).toArray) : St w [(w.heap.size, F)] (w.alloc (.cells cs 67)) := by
 refine ⟨fun p hp => ?_, growB _, ht.kept (growB _)⟩
 obtain rfl := List.mem_singleton.1 hp
 exact RowAt.fresh (stL F) h rfl (stL_length F).symm (stL_ne F) max25
theorem St.cell {w0 w : World} {L : List (Nat × (Nat → Nat))} (h : St w0 L w) (g : Nat) (F : Nat → Nat) (hp : (g, F) ∈ L) (j : Nat) (hj : j < 25) (v : Int) (hv : ((F j : Nat) : Int) = v) : w.cell? ⟨g, j, none⟩ = some (.int .u64 v) := by
 have := (h.rows (g, F) hp).cell (j := j) (by rw [stL_length]; exact hj)
 rw [stL_get _ _ hj] at this
 rw [this, ← hv]
theorem byF_shr (f : Nat → Nat) (n : Nat) : ((f (n / 8) : Nat) : Int) / 2 ^ (8 * (n % 8)) % 256 = ((byF f n).toNat : Int) := stB_shr (f (n / 8)) (n % 8)

set_option maxHeartbeats 400000 in
theorem byteAt_any (A : Array Value) (f : Nat → Nat) (hf : ∀ i, f i < 18446744073709551616) (hA : A = ((stL f).map (Value.int .u64)).toArray) (n : Nat) (hn : n < 200) (w : World) :
  Calls Tryd.prog 53 #[.agg A, .int .i64 (n : Int)] w fun e w' => e = .returned (.int .u8 ((byF f n).toNat : Int)) ∧ Below w.heap.size w w' := by
 have HA : Hid _ := hA
 have hq := hf (n / 8)
 clear hA hf
 obtain ⟨d, hd⟩ : ∃ d : Nat, d = n / 8 := ⟨_, rfl⟩
 obtain ⟨m, hm⟩ : ∃ m : Nat, m = n % 8 := ⟨_, rfl⟩
 have td : (n : Int).tdiv 8 = (d : Int) := by rw [hd, Int.tdiv_eq_ediv_of_nonneg (by omega)]; omega
 have tm : (n : Int).tmod 8 = (m : Int) := by rw [hm, Int.tmod_eq_emod_of_nonneg (by omega)]; omega
 have bd : (d : Int) < 25 := by omega
 have bm : (m : Int) < 8 := by omega
 have w8 : IntKind.i64.wrap (8 * (m : Int)) = 8 * (m : Int) := IntWalk.i64_in _ (by omega)
 have n8 : (8 * (m : Int)).toNat = 8 * m := by omega
 have HE : Hid _ := byF_shr f n
 rw [← hm] at HE
 rw [← hd] at HE hq
 have r0 : RowAt .u64 67 w.heap.size 25 (stL f) (w.alloc (.cells A 67)) := RowAt.fresh (stL f) HA.out rfl (stL_length f).symm (stL_ne f) max25
 have hc := r0.cell (j := d) (by rw [stL_length]; omega)
 rw [stL_get _ _ (by omega)] at hc
 have hb : Below w.heap.size w (w.alloc (.cells A 67)) := growB _
 generalize f d = q at hc HE hq
 clear r0 HA hd hm
 go_enter Tryd.func53, Tryd.ntmps53
 go_wp2
 go_ret
 exact ⟨retI (by first | exact HE.out | simpa using HE.out), hb⟩

theorem New.of_fill {e : TypeId} {w wb : World} {B n : Nat} {f : Nat → UInt8} {wr : World} (h : Fill e wb B n f n wr) (hb : Below w.heap.size w wb) : New e w (.slice (some ⟨B, 0, none⟩) n n) ((List.range n).map f) wr := h.done.from hb
theorem Fill.kept {e : TypeId} {w : World} {B n : Nat} {f : Nat → UInt8} {k : Nat} {wr w2 : World} (h : Fill e w B n f k wr) (hb : Below wr.heap.size wr w2) : Fill e w B n f k w2 := ⟨ownsRow_below h.1 hb, h.2.trans (hb.mono h.2.size)⟩

set_option maxHeartbeats 400000 in
theorem first_any (A : Array Value) (f : Nat → Nat) (hf : ∀ i, f i < 18446744073709551616) (hA : A = ((stL f).map (Value.int .u64)).toArray) (n : Nat) (hn : n ≤ 200) (w : World) :
  Calls Tryd.prog 41 #[.agg A, .int .i64 (n : Int)] w fun e w' => ∃ v, e = .returned v ∧ New 5 w v (bsP f n) w' := by
 obtain ⟨i, hi, hz0, hz1, hz2⟩ := info_parts info5
 have HA : Hid _ := hA
 have HF : Hid (∀ i, f i < 18446744073709551616) := hf
 clear hA hf
 have r0 : RowAt .u64 67 w.heap.size 25 (stL f) (w.alloc (.cells A 67)) := RowAt.fresh (stL f) HA.out rfl (stL_length f).symm (stL_ne f) max25
 have hb : Below w.heap.size w (w.alloc (.cells A 67)) := growB _
 go_enter Tryd.func41, Tryd.ntmps41
 go_wp2_with (at_make; go_must (refine wpList_make_full _ rfl _ _ 22 rfl (w.heap.size + 1) 5 i _ 1 Tryd.underlying22 hi hz0 hz1 _ _ _ _ n rfl rfl (by omega) (by omega) (by rw [hz2]; omega) (by unfold maxLen; omega) (by simp) ?_))
 intro w1 hown hgr
 have hF : Fill 5 (w.alloc (.cells A 67)) (w.heap.size + 1) n (byF f) 0 w1 := by
  have h1 : (w.alloc (.cells A 67)).heap.size = w.heap.size + 1 := by simp
  have := Fill.start (w := w.alloc (.cells A 67)) (byF f) (by rw [h1]; exact hown) hgr
  rwa [h1] at this
 clear hown hgr
 generalize w.alloc (.cells A 67) = wb at hF r0 hb
 go_wp2
 go_loopw [10] (fun i wr => ∃ j : Nat, j ≤ n ∧ i = .int .i64 j ∧ Fill 5 wb (w.heap.size + 1) n (byF f) j wr) (fun i _ => n - (intOf i).toNat)
 case atStart => exact ⟨0, Nat.zero_le _, rfl, hF⟩
 case round =>
  obtain ⟨j, hj, rfl, hFj⟩ := hrel
  clear hF
  by_cases hlt : j < n
  ·have hdt : decide ((j : Int) < (n : Int)) = true := decide_eq_true (by omega)
   have hjI : (j : Int) < n := by omega
   have r1 := r0.kept (hFj.2)
   go_wp2_with (refine wpList_load_row rfl 67 _ rfl rfl r1 _ Tryd.underlying67 rfl (arrInfo _) ?_)
   refine (byteAt_any _ f HF.out rfl j (by omega) _).mono ?_
   rintro e w2 ⟨rfl, hB⟩
   have hF2 := hFj.kept hB
   obtain ⟨hcj, hfj⟩ := hF2.cell hlt
   clear r1 hB hFj
   go_wp2
   go_roundw
   case rel => exact ⟨j + 1, by omega, by go_num, hF2.step rfl⟩
   case measure => simp [intOf]; omega
  ·have hje : j = n := by omega
   subst hje
   go_wp2
   go_ret
   exact ⟨_, rfl, New.of_fill hFj hb⟩
theorem leN_noughts : ∀ n, leN (List.replicate n 0) = 0
 | 0 => rfl
 | n + 1 => by rw [List.replicate_succ, leN_cons, leN_noughts n]; rfl
theorem leN_pad (z : Nat) : ∀ l : List UInt8, leN (l ++ List.replicate z 0) = leN l
 | [] => by simpa [leN] using leN_noughts z
 | x :: xs => by rw [List.cons_append, leN_cons, leN_cons, leN_pad z xs]
theorem lane_any (l : List UInt8) (j : Nat) : leN (((l.drop (8 * j)).take (l.length - 8 * j)).take 8) = xbl (fun k => l.getD k 0) l.length j := by
 unfold xbl
 have e : (List.range 8).map (fun t => if 8 * j + t < l.length then l.getD (8 * j + t) 0 else 0) = (l.drop (8 * j)).take 8 ++ List.replicate (8 - (l.length - 8 * j)) 0 := by
  refine List.ext_getElem (by simp; omega) fun t h1 h2 => ?_
  have ht : t < 8 := by simpa using h1
  by_cases h : 8 * j + t < l.length
  ·rw [List.getElem_append_left (by simp; omega)]
   simp [h]
  ·rw [List.getElem_append_right (by simp; omega)]
   simp [h]
 rw [e, leN_pad, show (l.drop (8 * j)).take (l.length - 8 * j) = l.drop (8 * j) from List.take_of_length_le (by simp)]
theorem xbl_none (blk : Nat → UInt8) (r j : Nat) (h : r ≤ 8 * j) : xbl blk r j = 0 := by
 have e : (List.range 8).map (fun t => if 8 * j + t < r then blk (8 * j + t) else 0) = List.replicate 8 0 := by
  refine List.ext_getElem (by simp) fun t h1 h2 => ?_
  simp only [List.getElem_map, List.getElem_range, List.getElem_replicate]
  rw [if_neg (by omega)]
 unfold xbl
 rw [e, leN_noughts]
theorem arrV_congr {f g : Nat → Nat} (h : ∀ i, i < 25 → f i = g i) : arrV f = arrV g := by
 show Value.agg _ = Value.agg _
 rw [stL_congr h]
theorem arrV_F (f : Nat → Nat) (hf : ∀ i, f i < 18446744073709551616) : arrV (rdsL f 24) = arrV (rdsF f 24) := arrV_congr fun i hi => rdsL_eq f hf 24 (Nat.le_refl _) i hi

set_option maxRecDepth 100000 in
set_option maxHeartbeats 1000000 in
theorem take_any (A : Array Value) (f : Nat → Nat) (hf : ∀ i, f i < 18446744073709551616) (hA : A = ((stL f).map (Value.int .u64)).toArray) (vb : Value) (l : List UInt8) (hl : l.length ≤ 200) (w : World) (hr : Rd w vb l) (ht : Tabs w) :
  Calls Tryd.prog 54 #[.agg A, vb] w fun e w' => e = .returned (arrV (tkF f (fun k => l.getD k 0) l.length)) ∧ Below w.heap.size w w' := by
 have HA : Hid _ := hA
 have HF : Hid (∀ i, f i < 18446744073709551616) := hf
 obtain ⟨a, cap, rfl, h2, h3, h4, -⟩ := id hr
 have HR : Hid (Rd w (.slice a l.length cap) l) := hr
 clear hA hf hr
 obtain ⟨n, hn⟩ : ∃ n : Nat, n = (l.length + 7) / 8 := ⟨_, rfl⟩
 have q1 : IntKind.i64.wrap ((l.length : Int) + 8) = (l.length : Int) + 8 := IntWalk.i64_in _ (by omega)
 have q2 : IntKind.i64.wrap ((l.length : Int) + 8 - 1) = (l.length : Int) + 8 - 1 := IntWalk.i64_in _ (by omega)
 have q3 : ((l.length : Int) + 8 - 1).tdiv 8 = (n : Int) := by rw [Int.tdiv_eq_ediv_of_nonneg (by omega)]; omega
 have q4 : IntKind.i64.wrap (n : Int) = (n : Int) := IntWalk.i64_in _ (by omega)
 go_enter Tryd.func54, Tryd.ntmps54
 go_wp2
 rw [HA.out]
 obtain ⟨W, hW, hI, hs⟩ := two_rows f w _ zeros25 ht
 rw [hW]
 clear hW ht q1 q2 q3 q4
 go_loopw [11] (fun i wr => ∃ j : Nat, j ≤ n ∧ i = .int .i64 j ∧ KI w (upQ f (fun k => f k ^^^ xbl (fun k => l.getD k 0) l.length k) j) wr) (fun i _ => n - (intOf i).toNat)
 case atStart => exact ⟨0, by omega, rfl, by have e := upQ_zero f (fun k => f k ^^^ xbl (fun k => l.getD k 0) l.length k); exact ⟨e ▸ hI.a, hI.r, hI.b, hI.t, hI.two⟩⟩
 case round =>
  obtain ⟨j, hj, rfl, hI2⟩ := hrel
  clear hI hs
  by_cases hlt : j < n
  ·have hd : decide ((j : Int) < (n : Int)) = true := decide_eq_true (by omega)
   have hjn : (j : Int) < n := by omega
   have hjI : (j : Int) < 25 := by omega
   have w8 : IntKind.i64.wrap (8 * (j : Int)) = 8 * (j : Int) := IntWalk.i64_in _ (by omega)
   have n8 : (8 * (j : Int)).toNat = 8 * j := by omega
   have hle : 8 * (j : Int) ≤ (l.length : Int) := by omega
   have hge : (0 : Int) ≤ 8 * (j : Int) := by omega
   have hcn : ¬ cap = 8 * j := by omega
   have hc := hI2.a.cell (j := j) (by rw [stL_length]; omega)
   have hcf := hI2.a.free j
   rw [stL_get _ j (by omega), upQ_get] at hc
   have hq := HF.out j
   obtain ⟨b, off, rfl⟩ : ∃ b off, a = some ⟨b, off, none⟩ := by
    obtain ⟨b, off, cp, e1, _⟩ := HR.out.cellAt (i := 0) (by omega)
    simp only [Value.slice.injEq] at e1
    exact ⟨b, off, e1.1⟩
   have hR1 := (HR.out.kept hI2.b).sub (8 * j) l.length (by omega) (Nat.le_refl _)
   have HLn : Hid _ := lane_any l j
   have HS : Hid (∀ x : Int, x = ((f j ^^^ xbl (fun k => l.getD k 0) l.length j : Nat) : Int) → KI w (upQ f (fun k => f k ^^^ xbl (fun k => l.getD k 0) l.length k) (j + 1)) (wr.setCell ⟨w.heap.size, j, none⟩ (.int .u64 x))) := by
    intro x hx
    exact hI2.set j x (by rw [hx]; exact upQ_set f (fun k => f k ^^^ xbl (fun k => l.getD k 0) l.length k) j)
   have HX : Hid _ := xorI (f j) (xbl (fun k => l.getD k 0) l.length j) hq (xbl_lt _ _ _)
   generalize f j = q0 at hc hq HX HS
   clear hI2
   go_wp2_with fail
   refine wpE_begin 10 (by kernel_rfl) ?_
   refine wpE_t (i := 0) (oi := ⟨some 14, .move (.tmp 5), 3, "sponge.go:63", #[], none⟩) (v := ?_) ?_ ?_
   rotate_left
   ·intro W hW; go_simp <;> with_reducible rfl
   try simp only [Act.put, putA, putB, putC]
   refine wpE_t (i := 1) (oi := ⟨some 15, .indexAddr 67 (.tmp 2) (.tmp 14), 0, "sponge.go:63", #[⟨0, .data⟩], none⟩) (v := ?_) ?_ ?_
   rotate_left
   ·intro W hW; go_simp <;> with_reducible rfl
   try simp only [Act.put, putA, putB, putC]
   refine wpE_t (i := 2) (oi := ⟨some 16, .load 23 (.tmp 15), 23, "sponge.go:63", #[⟨1, .data⟩], none⟩) (v := ?_) ?_ ?_
   rotate_left
   ·intro W hW; have hcW := cellU hc hW; go_simp <;> with_reducible rfl
   try simp only [Act.put, putA, putB, putC]
   refine wpE_t (i := 3) (oi := ⟨some 17, .move (.tmp 1), 22, "sponge.go:63", #[], none⟩) (v := ?_) ?_ ?_
   rotate_left
   ·intro W hW; go_simp <;> with_reducible rfl
   try simp only [Act.put, putA, putB, putC]
   refine wpE_t (i := 4) (oi := ⟨some 18, .move (.tmp 5), 3, "sponge.go:63", #[], none⟩) (v := ?_) ?_ ?_
   rotate_left
   ·intro W hW; go_simp <;> with_reducible rfl
   try simp only [Act.put, putA, putB, putC]
   refine wpE_t (i := 5) (oi := ⟨some 19, .binOp .mul 3 (.const (.int .i64 8)) (.tmp 18) 3, 3, "sponge.go:63", #[⟨4, .data⟩], none⟩) (v := ?_) ?_ ?_
   rotate_left
   ·intro W hW; go_simp <;> with_reducible rfl
   try simp only [Act.put, putA, putB, putC]
   refine wpE_t (i := 6) (oi := ⟨some 20, .slice 22 (.tmp 17) (some (.tmp 19)) none none, 22, "sponge.go:63", #[⟨3, .data⟩, ⟨5, .data⟩], none⟩) (v := ?_) ?_ ?_
   rotate_left
   ·intro W hW; go_simp <;> with_reducible rfl
   try simp only [Act.put, putA, putB, putC]
   refine wpE_do (i := 7) (o := ⟨some 21, .call { callee := .value (.func 68), args := #[.tmp 20], argTypes := #[22] }, 23, "sponge.go:63", #[⟨6, .data⟩], none⟩) (by kernel_rfl) rfl (by rfl) fun K hK => ?_
   go_simp
   refine (load_any _ _ _ hR1.drew).mono ?_
   rintro e w' ⟨rfl, rfl⟩
   refine hK.out _ _ (Below.refl _ _) ?_
   clear hK K
   try simp only [Act.put, putA, putB, putC]
   refine wpE_t (i := 8) (oi := ⟨some 22, .binOp .xor 23 (.tmp 16) (.tmp 21) 23, 23, "sponge.go:63", #[⟨2, .data⟩, ⟨7, .data⟩], none⟩) (v := ?_) ?_ ?_
   rotate_left
   ·intro W hW; go_simp <;> with_reducible rfl
   try simp only [Act.put, putA, putB, putC]
   refine wpE_t (i := 9) (oi := ⟨some 23, .indexAddr 67 (.tmp 2) (.tmp 14), 0, "sponge.go:63", #[⟨0, .data⟩, ⟨0, .phase⟩, ⟨1, .phase⟩, ⟨2, .phase⟩, ⟨3, .phase⟩, ⟨4, .phase⟩, ⟨5, .phase⟩, ⟨6, .phase⟩, ⟨7, .phase⟩, ⟨8, .phase⟩], none⟩) (v := ?_) ?_ ?_
   rotate_left
   ·intro W hW; go_simp <;> with_reducible rfl
   try simp only [Act.put, putA, putB, putC]
   refine wpE_last (o := ⟨none, .store 23 (.tmp 23) (.tmp 22), 0, "sponge.go:63", #[⟨9, .data⟩, ⟨8, .data⟩, ⟨7, .chain⟩, ⟨0, .phase⟩, ⟨1, .phase⟩, ⟨2, .phase⟩, ⟨3, .phase⟩, ⟨4, .phase⟩, ⟨5, .phase⟩, ⟨6, .phase⟩, ⟨7, .phase⟩, ⟨8, .phase⟩], none⟩) (by kernel_rfl) (by kernel_rfl) rfl (by rfl) fun K hK => ?_
   go_simp
   refine hK.out _ _ ?_
   clear hK K
   try simp only [Act.put, putA, putB, putC]
   rw [HLn.out, HX.out]
   have hI3 := (HS.out _ rfl).drew
   go_wp2
   go_roundw
   case rel => exact ⟨j + 1, by omega, by go_num, hI3⟩
   case measure => simp [intOf]; omega
  ·have hd0 : decide ((j : Int) < (n : Int)) = false := decide_eq_false (by omega)
   have hj0 : (n : Int) ≤ j := by omega
   have r1 := hI2.a
   have e1 : stL (upQ f (fun k => f k ^^^ xbl (fun k => l.getD k 0) l.length k) j) = stL (fun k => f k ^^^ xbl (fun k => l.getD k 0) l.length k) := stL_congr fun i hi => by
    unfold upQ
    split
    ·rfl
    ·rw [xbl_none _ _ _ (by omega), Nat.xor_zero]
   rw [e1] at r1
   go_wp2_with (refine wpList_load_row rfl 67 _ rfl rfl r1 _ Tryd.underlying67 rfl (arrInfo _) ?_)
   have hlx : ∀ i, (fun k => f k ^^^ xbl (fun k => l.getD k 0) l.length k) i < 18446744073709551616 := fun i => xor_lt64 (HF.out i) (xbl_lt _ _ _)
   refine (kF_any _ _ hlx rfl _ hI2.t).mono ?_
   rintro e w2 ⟨rfl, hB⟩
   have r2 := (hI2.kept hB).r
   have hb2 := (hI2.kept hB).b
   rw [arrV_F _ hlx]
   clear r1 hI2 hB e1
   go_wp2_with (refine wpList_store_row rfl 67 _ _ rfl (stL (rdsF (fun k => f k ^^^ xbl (fun k => l.getD k 0) l.length k) 24)) rfl rfl r2 (by simp [stL_length]) (arrInfo _) ?_; intro w3 r3 hw)
   refine bodyPost_row (p := 4) (ty := 67) rfl rfl rfl r3 Tryd.underlying67 rfl (arrInfo _) ?_
   exact ⟨rfl, hw.below _ _ (by omega) hb2⟩
def lbF (r : Nat) (s : UInt8) (l : List UInt8) (k : Nat) : UInt8 := (if k < l.length then l.getD k 0 else if k = l.length then s else 0) ^^^ (if k = r - 1 then 128 else 0)
def lbL (r : Nat) (s : UInt8) (l : List UInt8) : List UInt8 := (List.range r).map (lbF r s l)
theorem lbL_length (r : Nat) (s : UInt8) (l : List UInt8) : (lbL r s l).length = r := by simp [lbL]
theorem lb_step (r : Nat) (s : UInt8) (l : List UInt8) (hl : l.length < r) (k : Nat) (hk : k < r) : ((l ++ List.replicate (r - l.length) (0 : UInt8)).set l.length s).getD k 0 = if k < l.length then l.getD k 0 else if k = l.length then s else 0 := by
 rw [List.getD_eq_getElem?_getD, List.getElem?_set]
 by_cases h : k < l.length
 ·rw [if_pos h, if_neg (by omega), List.getElem?_append_left h, List.getD_eq_getElem?_getD]
 ·rw [if_neg h]
  by_cases h2 : k = l.length
  ·subst h2
   rw [if_pos rfl, if_pos (by simp; omega), if_pos rfl]
   rfl
  ·rw [if_neg h2, if_neg (Ne.symm h2), List.getElem?_append_right (by omega), List.getElem?_replicate, if_pos (by omega)]
   rfl
theorem lb_done (r : Nat) (s : UInt8) (l : List UInt8) (hl : l.length < r) :
  ((l ++ List.replicate (r - l.length) (0 : UInt8)).set l.length s).set (r - 1) (((l ++ List.replicate (r - l.length) (0 : UInt8)).set l.length s).getD (r - 1) 0 ^^^ 128) = lbL r s l := by
 have hlen : ((l ++ List.replicate (r - l.length) (0 : UInt8)).set l.length s).length = r := by simp; omega
 refine List.ext_getElem (by rw [List.length_set, hlen, lbL_length]) fun k h1 h2 => ?_
 have hk : k < r := by rw [lbL_length] at h2; exact h2
 have e1 := lb_step r s l hl k hk
 have e3 : (lbL r s l)[k] = lbF r s l k := by simp [lbL]
 rw [e3, List.getElem_set]
 unfold lbF
 by_cases h : r - 1 = k
 ·subst h
  rw [if_pos rfl, if_pos rfl, e1]
 ·have e2 : ((l ++ List.replicate (r - l.length) (0 : UInt8)).set l.length s)[k]'(by rw [hlen]; exact hk) = ((l ++ List.replicate (r - l.length) (0 : UInt8)).set l.length s).getD k 0 := by
   rw [List.getD_eq_getElem?_getD, List.getElem?_eq_getElem (by rw [hlen]; exact hk)]
   rfl
  rw [if_neg h, if_neg (Ne.symm h), ← e1, UInt8.xor_zero]
  exact e2

set_option maxHeartbeats 1000000 in
theorem lastBlock_any (r : Nat) (h2 : r ≤ 200) (s : UInt8) (S : Int) (hS : S = (s.toNat : Int)) (vb : Value) (l : List UInt8) (hl : l.length < r) (w : World) (hr : Rd w vb l) :
  Calls Tryd.prog 55 #[.int .i64 (r : Int), .int .u8 S, vb] w fun e w' => ∃ v, e = .returned v ∧ New 5 w v (lbL r s l) w' := by
 subst hS
 obtain ⟨i, hi, hz0, hz1, hz2⟩ := info_parts info5
 have hsz : (Tryd.prog.info? 5).map (·.size) = some 1 := by kernel_rfl
 have HD : Hid _ := lb_done r s l hl
 obtain ⟨a, cap, rfl, h3, h4, h5, -⟩ := id hr
 go_enter Tryd.func55, Tryd.ntmps55
 go_wp2_with (at_make; go_must (refine wpList_make_full _ rfl _ _ 22 rfl w.heap.size 5 i _ 1 Tryd.underlying22 hi hz0 hz1 _ _ _ _ r rfl rfl (by omega) (by omega) (by rw [hz2]; omega) (by unfold maxLen; omega) (Nat.le_refl _) ?_))
 intro w1 hown hgr
 have hN := New.made hown hgr
 have hr1 := hr.kept hN.2
 clear hown hgr hr
 go_wp2_with (refine wpList_copy_new (w := w) rfl _ _ 22 rfl 5 Tryd.underlying22 hsz _ _ rfl hN _ _ rfl hr1 (by simp; omega) (by intro h; simp at h; omega) ?_)
 intro w2 hN2
 clear hN hr1
 have hlen2 : r = (l ++ List.replicate (r - l.length) (0 : UInt8)).length := by simp; omega
 obtain ⟨g, eg, hg, -, hc, hfz, hset⟩ := own_at hlen2 hN2.1 (j := l.length) hl
 simp only [Option.some.injEq, Addr.mk.injEq, and_true] at eg
 subst eg
 have hN3 : New 5 w (.slice (some ⟨w.heap.size, 0, none⟩) r r) ((l ++ List.replicate (r - l.length) (0 : UInt8)).set l.length s) (w2.setCell ⟨w.heap.size, l.length, none⟩ (.int .u8 (s.toNat : Int))) := ⟨hset s _ rfl, hN2.2.setCell (Nat.le_refl _) _⟩
 have hlI : (l.length : Int) < r := by omega
 obtain ⟨p, hp⟩ : ∃ p : Nat, p = r - 1 := ⟨_, rfl⟩
 have wp1 : IntKind.i64.wrap ((r : Int) - 1) = (p : Int) := by rw [IntWalk.i64_in _ (by omega)]; omega
 have hpI : (p : Int) < r := by omega
 rw [← hp] at HD
 have hlen3 : r = ((l ++ List.replicate (r - l.length) (0 : UInt8)).set l.length s).length := by rw [List.length_set]; exact hlen2
 obtain ⟨g, eg, hg3, -, hc3, hfz3, hset3⟩ := own_at hlen3 hN3.1 (j := p) (by omega)
 simp only [Option.some.injEq, Addr.mk.injEq, and_true] at eg
 subst eg
 have hN4 := hset3 _ _ (byte_xor (((l ++ List.replicate (r - l.length) (0 : UInt8)).set l.length s).getD p 0) 128)
 rw [HD.out] at hN4
 have hb4 := hN3.2.setCell (p := ⟨w.heap.size, p, none⟩) (Nat.le_refl _) (.int .u8 (bits .xor .u8 (((((l ++ List.replicate (r - l.length) (0 : UInt8)).set l.length s).getD p 0).toNat : Nat) : Int) (((128 : UInt8).toNat : Nat) : Int)))
 generalize ((l ++ List.replicate (r - l.length) (0 : UInt8)).set l.length s).getD p 0 = x at hc3 hN4 hb4
 have HN : Hid (New 5 w (.slice (some ⟨w.heap.size, 0, none⟩) r r) (lbL r s l) ((w2.setCell ⟨w.heap.size, l.length, none⟩ (.int .u8 (s.toNat : Int))).setCell ⟨w.heap.size, p, none⟩ (.int .u8 (bits .xor .u8 ((x.toNat : Nat) : Int) (((128 : UInt8).toNat : Nat) : Int))))) := ⟨hN4, hb4⟩
 clear HD hset hset3 hN2 hN3 hN4 hb4 hlen2 hlen3 hp
 go_wp2
 go_ret
 exact ⟨_, rfl, HN.out⟩

structure AI (w : World) (F : Nat → Nat) (wr : World) : Prop where
 a : RowAt .u64 67 w.heap.size 25 (stL fun _ => 0) wr
 r : RowAt .u64 67 (w.heap.size + 1) 25 (stL F) wr
 b : Below w.heap.size w wr
 t : Tabs wr
 two : 3 < w.heap.size
theorem AI.drew {w wr : World} {F : Nat → Nat} (h : AI w F wr) : AI w F wr.drew := ⟨h.a.drew, h.r.drew, h.b.drew, h.t.kept (Below.refl _ _).drew, h.two⟩
theorem AI.kept {w wr w2 : World} {F : Nat → Nat} (h : AI w F wr) (hb : Below wr.heap.size wr w2) : AI w F w2 := ⟨h.a.kept hb, h.r.kept hb, stepB h.b hb, h.t.kept hb, h.two⟩
theorem AI.whole {w wr w2 : World} {F G : Nat → Nat} (h : AI w F wr) (hr : RowAt .u64 67 (w.heap.size + 1) 25 (stL G) w2) (hw : Wrote (w.heap.size + 1) wr w2) : AI w G w2 :=
 ⟨h.a.wrote hw (by omega), hr, hw.below _ _ (by omega) h.b, h.t.wrote hw (by have := h.two; omega), h.two⟩

theorem Rd.rest {w : World} {b off n cap : Nat} {l : List UInt8} (h : Rd w (.slice (some ⟨b, off, none⟩) n cap) l) (r : Nat) (hr : r ≤ n) :
  Rd w (.slice (if cap = r then some ⟨b, off, none⟩ else some ⟨b, off + r, none⟩) (n - r) (cap - r)) (l.drop r) := by
 have hn : n = l.length := by
  obtain ⟨a, c, e, _⟩ := id h
  simp only [Value.slice.injEq] at e
  exact e.2.1
 by_cases hc : cap = r
 ·rw [if_pos hc]
  have hcap : n ≤ cap := by
   obtain ⟨a, c, e, h2, _⟩ := id h
   simp only [Value.slice.injEq] at e
   omega
  have h0 : l.drop r = [] := List.drop_eq_nil_of_le (by omega)
  rw [h0, show n - r = 0 by omega, hc, Nat.sub_self]
  exact ⟨_, 0, rfl, by simp, by simp, fun _ => rfl, .inl rfl⟩
 ·rw [if_neg hc]
  have := h.sub r n hr (Nat.le_refl _)
  rwa [List.take_of_length_le (by rw [List.length_drop]; omega)] at this

theorem absorb_zero (R S : Int) (h : ¬ (1 ≤ R ∧ R ≤ 200)) (vb : Value) (w : World) :
  Calls Tryd.prog 42 #[.int .i64 R, .int .u8 S, vb] w fun e w' => e = .returned (arrV fun _ => 0) ∧ Below w.heap.size w w' := by
 have r0 : RowAt .u64 67 w.heap.size 25 (stL fun _ => 0) (w.alloc (.cells #[Value.int .u64 0, .int .u64 0, .int .u64 0, .int .u64 0, .int .u64 0, .int .u64 0, .int .u64 0, .int .u64 0, .int .u64 0, .int .u64 0, .int .u64 0, .int .u64 0, .int .u64 0, .int .u64 0, .int .u64 0, .int .u64 0, .int .u64 0, .int .u64 0, .int .u64 0, .int .u64 0, .int .u64 0, .int .u64 0, .int .u64 0, .int .u64 0, .int .u64 0] 67)) := RowAt.fresh (stL fun _ => 0) zeros25 rfl (stL_length _).symm (stL_ne _) max25
 have r1 : RowAt .u64 67 (w.heap.size + 1) 25 (stL fun _ => 0) ((w.alloc (.cells #[Value.int .u64 0, .int .u64 0, .int .u64 0, .int .u64 0, .int .u64 0, .int .u64 0, .int .u64 0, .int .u64 0, .int .u64 0, .int .u64 0, .int .u64 0, .int .u64 0, .int .u64 0, .int .u64 0, .int .u64 0, .int .u64 0, .int .u64 0, .int .u64 0, .int .u64 0, .int .u64 0, .int .u64 0, .int .u64 0, .int .u64 0, .int .u64 0, .int .u64 0] 67)).alloc (.cells #[Value.int .u64 0, .int .u64 0, .int .u64 0, .int .u64 0, .int .u64 0, .int .u64 0, .int .u64 0, .int .u64 0, .int .u64 0, .int .u64 0, .int .u64 0, .int .u64 0, .int .u64 0, .int .u64 0, .int .u64 0, .int .u64 0, .int .u64 0, .int .u64 0, .int .u64 0, .int .u64 0, .int .u64 0, .int .u64 0, .int .u64 0, .int .u64 0, .int .u64 0] 67)) := RowAt.fresh (stL fun _ => 0) zeros25 (by simp) (stL_length _).symm (stL_ne _) max25
 have hb := stepB (growB (w := w) (.cells #[Value.int .u64 0, .int .u64 0, .int .u64 0, .int .u64 0, .int .u64 0, .int .u64 0, .int .u64 0, .int .u64 0, .int .u64 0, .int .u64 0, .int .u64 0, .int .u64 0, .int .u64 0, .int .u64 0, .int .u64 0, .int .u64 0, .int .u64 0, .int .u64 0, .int .u64 0, .int .u64 0, .int .u64 0, .int .u64 0, .int .u64 0, .int .u64 0, .int .u64 0] 67)) (growB (.cells #[Value.int .u64 0, .int .u64 0, .int .u64 0, .int .u64 0, .int .u64 0, .int .u64 0, .int .u64 0, .int .u64 0, .int .u64 0, .int .u64 0, .int .u64 0, .int .u64 0, .int .u64 0, .int .u64 0, .int .u64 0, .int .u64 0, .int .u64 0, .int .u64 0, .int .u64 0, .int .u64 0, .int .u64 0, .int .u64 0, .int .u64 0, .int .u64 0, .int .u64 0] 67))
 have r2 := r0.kept (growB (.cells #[Value.int .u64 0, .int .u64 0, .int .u64 0, .int .u64 0, .int .u64 0, .int .u64 0, .int .u64 0, .int .u64 0, .int .u64 0, .int .u64 0, .int .u64 0, .int .u64 0, .int .u64 0, .int .u64 0, .int .u64 0, .int .u64 0, .int .u64 0, .int .u64 0, .int .u64 0, .int .u64 0, .int .u64 0, .int .u64 0, .int .u64 0, .int .u64 0, .int .u64 0] 67))
 have h' : (R < 1 ∧ decide (R < 1) = true) ∨ (200 < R ∧ decide (R < 1) = false ∧ decide (200 < R) = true) := by
  by_cases h1 : R < 1
  ·exact .inl ⟨h1, decide_eq_true h1⟩
  ·exact .inr ⟨by omega, decide_eq_false h1, decide_eq_true (by omega)⟩
 rcases h' with ⟨h1, d1⟩ | ⟨h1, d0, d1⟩
 all_goals
  go_enter Tryd.func42, Tryd.ntmps42
  go_wp2_with (first | refine wpList_load_row rfl 67 _ rfl rfl r1 _ Tryd.underlying67 rfl (arrInfo _) ?_ | (refine wpList_store_row rfl 67 _ _ rfl (stL fun _ => 0) rfl rfl r2 (by simp [stL_length]) (arrInfo _) ?_; intro w3 r3 hw))
  refine bodyPost_row (p := 6) (ty := 67) rfl rfl rfl r3 Tryd.underlying67 rfl (arrInfo _) ?_
  exact ⟨rfl, hw.below _ _ (Nat.le_refl _) hb⟩
theorem lb_las (r : Nat) (s : UInt8) (l : List UInt8) (hr : 0 < r) (k : Nat) (hk : k < r) : (lbL r s (l.drop (l.length / r * r))).getD k 0 = lasB r s l k := by
 have h0 := Nat.div_add_mod l.length r
 rw [Nat.mul_comm] at h0
 have e1 : (l.drop (l.length / r * r)).length = l.length % r := by simp; omega
 unfold lbL lasB
 rw [show ((List.range r).map (lbF r s (l.drop (l.length / r * r)))).getD k 0 = lbF r s (l.drop (l.length / r * r)) k by simp [hk]]
 unfold lbF
 rw [e1]
 congr 1
 by_cases h : k < l.length % r
 ·rw [if_pos h, if_pos h]
  simp
 ·rw [if_neg h, if_neg h]

theorem absorb_start (w : World) (cs : Array Value) (hcs : cs = ((stL fun _ => 0).map (Value.int .u64)).toArray) (t : Tabs w) :
  ∃ W, (w.alloc (.cells cs 67)).alloc (.cells cs 67) = W ∧ AI w (fun _ => 0) W := by
 subst hcs
 obtain ⟨W, hW, hI, hs⟩ := two_rows (fun _ => 0) w _ rfl t
 exact ⟨W, hW, ⟨hI.a, hI.r, hI.b, hI.t, hI.two⟩⟩

set_option maxRecDepth 100000 in
set_option maxHeartbeats 2000000 in
theorem absorb_at (r : Nat) (h1 : 1 ≤ r) (h2 : r ≤ 200) (s : UInt8) (S : Int) (hS : S = (s.toNat : Int)) (vb : Value) (l : List UInt8) (w : World) (hr : Rd w vb l) (ht : Tabs w) :
  Calls Tryd.prog 42 #[.int .i64 (r : Int), .int .u8 S, vb] w fun e w' => e = .returned (arrV (tkF (fuN r l (l.length / r)) (lasB r s l) r)) ∧ Below w.heap.size w w' := by
 subst hS
 obtain ⟨a, cap, rfl, h3, h4, h5, -⟩ := id hr
 have hmx := hr.len
 unfold maxLen at h4
 have HR : Hid (Rd w (.slice a l.length cap) l) := hr
 clear hr
 obtain ⟨q, hq⟩ : ∃ q : Nat, q = l.length / r := ⟨_, rfl⟩
 have hqr : q * r ≤ l.length := by rw [hq]; exact Nat.div_mul_le_self _ _
 have hqm : l.length - q * r < r := by
  have e0 := Nat.div_add_mod l.length r
  have e1 := Nat.mod_lt l.length (show 0 < r by omega)
  rw [Nat.mul_comm, ← hq] at e0
  omega
 have hq1 : q ≤ l.length := Nat.le_trans (Nat.le_mul_of_pos_right q (by omega)) hqr
 have q3 : ((l.length : Int)).tdiv (r : Int) = (q : Int) := by rw [Int.tdiv_eq_ediv_of_nonneg (by omega), hq]; rfl
 have q4 : IntKind.i64.wrap (q : Int) = (q : Int) := IntWalk.i64_in _ (by omega)
 have d1 : decide ((r : Int) < 1) = false := decide_eq_false (by omega)
 have d2 : decide ((200 : Int) < (r : Int)) = false := decide_eq_false (by omega)
 have g1 : (1 : Int) ≤ r := by omega
 have g2 : (r : Int) ≤ 200 := by omega
 have g3 : ¬ (r : Int) = 0 := by omega
 rw [← hq]
 have HQ : Hid (q = l.length / r) := hq
 clear hq
 go_enter Tryd.func42, Tryd.ntmps42
 go_wp2
 obtain ⟨W, hW, hI⟩ := absorb_start w _ zeros25 ht
 rw [hW]
 clear hW ht q3 q4 d1 d2
 go_loopw [19, 2] (fun i b wr => ∃ j : Nat, j ≤ q ∧ i = .int .i64 j ∧ Rd w b (l.drop (j * r)) ∧ AI w (fuN r l j) wr) (fun i _ _ => q - (intOf i).toNat)
 case atStart => exact ⟨0, by omega, rfl, by rw [Nat.zero_mul, List.drop_zero]; exact HR.out, hI⟩
 case round =>
  obtain ⟨j, hj, rfl, hR, hI2⟩ := hrel
  clear hI HR
  obtain ⟨a2, cap2, rfl, k2, k3, k4, -⟩ := id hR
  obtain ⟨n, hn⟩ : ∃ n : Nat, n = (l.drop (j * r)).length := ⟨_, rfl⟩
  have hjr : j * r ≤ q * r := Nat.mul_le_mul_right r hj
  have hn' : n = l.length - j * r := by rw [hn, List.length_drop]
  rw [← hn] at hR k2 ⊢
  unfold maxLen at k3
  have HN : Hid (n = (l.drop (j * r)).length) := hn
  have HN' : Hid (n = l.length - j * r) := hn'
  have hnr : n + j * r = l.length := by omega
  have HNR : Hid (n + j * r = l.length) := hnr
  clear hn hn'
  by_cases hlt : j < q
  ·have hd : decide ((j : Int) < (q : Int)) = true := decide_eq_true (by omega)
   have hjq : (j : Int) < q := by omega
   have hjr1 : (j + 1) * r ≤ q * r := Nat.mul_le_mul_right r hlt
   rw [Nat.add_mul, Nat.one_mul] at hjr1
   have hrn : r ≤ n := by omega
   clear hnr
   obtain ⟨b, off, rfl⟩ : ∃ b off, a2 = some ⟨b, off, none⟩ := by
    obtain ⟨b, off, cp, e1, _⟩ := hR.cellAt (i := 0) (by rw [← HN.out]; omega)
    simp only [Value.slice.injEq] at e1
    exact ⟨b, off, e1.1⟩
   have hT := (hR.kept hI2.b).take (n := r) hrn
   have hlen : ((l.drop (j * r)).take r).length = r := by rw [List.length_take, ← HN.out]; omega
   have HT : Hid (arrV (tkF (fuN r l j) (fun k => ((l.drop (j * r)).take r).getD k 0) ((l.drop (j * r)).take r).length) = arrV (fuN r l (j + 1))) := by
    rw [hlen]
    exact arrV_congr (tkF_congr r (fun _ _ => rfl) fun k hk => by simp [hk])
   have hP := hR.rest r hrn
   rw [List.drop_drop, show j * r + r = (j + 1) * r by rw [Nat.add_mul, Nat.one_mul]] at hP
   have HP : Hid _ := hP
   have hrc : (r : Int) ≤ cap2 := by omega
   have hrnI : (r : Int) ≤ n := by omega
   have r1 := hI2.r
   clear hR hP
   go_wp2_with fail
   refine wpE_begin 5 (by kernel_rfl) ?_
   refine wpE_t (i := 0) (oi := ⟨some 21, .load 67 (.tmp 7), 67, "sponge.go:44", #[], none⟩) (v := ?_) ?_ ?_
   rotate_left
   ·intro W hW; refine Eq.trans (exec_load_row 67 _ (by rfl) (by rfl) r1 hW _ Tryd.underlying67 rfl (arrInfo _)) ?_; with_reducible rfl
   try simp only [Act.put, putA, putB, putC]
   refine wpE_t (i := 1) (oi := ⟨some 22, .move (.tmp 2), 22, "sponge.go:44", #[], none⟩) (v := ?_) ?_ ?_
   rotate_left
   ·intro W hW; go_simp <;> with_reducible rfl
   try simp only [Act.put, putA, putB, putC]
   refine wpE_t (i := 2) (oi := ⟨some 23, .move (.tmp 0), 3, "sponge.go:44", #[], none⟩) (v := ?_) ?_ ?_
   rotate_left
   ·intro W hW; go_simp <;> with_reducible rfl
   try simp only [Act.put, putA, putB, putC]
   refine wpE_t (i := 3) (oi := ⟨some 24, .slice 22 (.tmp 22) none (some (.tmp 23)) none, 22, "sponge.go:44", #[⟨1, .data⟩, ⟨2, .data⟩], none⟩) (v := ?_) ?_ ?_
   rotate_left
   ·intro W hW; go_simp <;> with_reducible rfl
   try simp only [Act.put, putA, putB, putC]
   refine wpE_do (i := 4) (o := ⟨some 25, .call { callee := .value (.func 54), args := #[.tmp 21, .tmp 24], argTypes := #[67, 22] }, 67, "sponge.go:44", #[⟨0, .data⟩, ⟨3, .data⟩], none⟩) (by kernel_rfl) rfl (by rfl) fun K hK => ?_
   go_simp
   refine (take_any _ (fuN r l j) (fuN_lt r l j) rfl _ _ (by rw [hlen]; omega) _ hT.drew hI2.drew.t).mono ?_
   rintro e w2 ⟨rfl, hB2⟩
   refine hK.out _ _ hB2 ?_
   clear hK K
   have hI3 := hI2.drew.kept hB2
   have r3 := hI3.r
   rw [HT.out]
   try simp only [Act.put, putA, putB, putC]
   refine wpE_last (o := ⟨none, .store 67 (.tmp 7) (.tmp 25), 0, "sponge.go:44", #[⟨4, .data⟩, ⟨4, .chain⟩, ⟨0, .phase⟩, ⟨1, .phase⟩, ⟨2, .phase⟩, ⟨3, .phase⟩, ⟨4, .phase⟩], none⟩) (by kernel_rfl) (by kernel_rfl) rfl (by rfl) fun K hK => ?_
   refine wp_store_row 67 _ _ (by rfl) (stL (fuN r l (j + 1))) (by rfl) (by rfl) r3 (by simp [stL_length]) (arrInfo _) ?_
   intro w4 r4 hw4
   refine hK.out _ _ ?_
   clear hK K
   try simp only [Act.put, putA, putB, putC]
   have hI4 := hI3.whole r4 hw4
   clear r1 r3 r4 hw4 hI2 hI3 hB2 hT
   by_cases hcr : cap2 = r
   ·have hcrI : (cap2 : Int) = r := by omega
    rw [if_pos hcr, hcr, Nat.sub_self] at HP
    go_wp2
    go_roundw
    case rel => exact ⟨j + 1, by omega, by go_num, HP.out, hI4⟩
    case measure => simp [intOf]; omega
   ·rw [if_neg hcr] at HP
    go_wp2
    go_roundw
    case rel => exact ⟨j + 1, by omega, by go_num, HP.out, hI4⟩
    case measure => simp [intOf]; omega
  ·have hje : j = q := by omega
   have hd : decide ((j : Int) < (q : Int)) = false := decide_eq_false (by omega)
   have hjq : (q : Int) ≤ j := by omega
   have HJ : Hid (j = q) := hje
   have hR1 := hR.kept hI2.b
   have hln : (l.drop (j * r)).length < r := by rw [← HN.out, HN'.out, hje]; exact hqm
   have r1 := hI2.r
   clear hje hR hnr
   go_wp2_with fail
   refine wpE_begin 6 (by kernel_rfl) ?_
   refine wpE_t (i := 0) (oi := ⟨some 30, .load 67 (.tmp 7), 67, "sponge.go:47", #[], none⟩) (v := ?_) ?_ ?_
   rotate_left
   ·intro W hW; refine Eq.trans (exec_load_row 67 _ (by rfl) (by rfl) r1 hW _ Tryd.underlying67 rfl (arrInfo _)) ?_; with_reducible rfl
   try simp only [Act.put, putA, putB, putC]
   refine wpE_t (i := 1) (oi := ⟨some 31, .move (.tmp 0), 3, "sponge.go:47", #[], none⟩) (v := ?_) ?_ ?_
   rotate_left
   ·intro W hW; go_simp <;> with_reducible rfl
   try simp only [Act.put, putA, putB, putC]
   refine wpE_t (i := 2) (oi := ⟨some 32, .move (.tmp 1), 5, "sponge.go:47", #[], none⟩) (v := ?_) ?_ ?_
   rotate_left
   ·intro W hW; go_simp <;> with_reducible rfl
   try simp only [Act.put, putA, putB, putC]
   refine wpE_t (i := 3) (oi := ⟨some 33, .move (.tmp 2), 22, "sponge.go:47", #[], none⟩) (v := ?_) ?_ ?_
   rotate_left
   ·intro W hW; go_simp <;> with_reducible rfl
   try simp only [Act.put, putA, putB, putC]
   refine wpE_do (i := 4) (o := ⟨some 34, .call { callee := .value (.func 55), args := #[.tmp 31, .tmp 32, .tmp 33], argTypes := #[3, 5, 22] }, 22, "sponge.go:47", #[⟨1, .data⟩, ⟨2, .data⟩, ⟨3, .data⟩], none⟩) (by kernel_rfl) rfl (by rfl) fun K hK => ?_
   go_simp
   refine (lastBlock_any r h2 s _ rfl _ (l.drop (j * r)) hln _ hR1.drew).mono ?_
   rintro e w2 ⟨v2, rfl, hN2⟩
   refine hK.out _ _ hN2.2 ?_
   clear hK K
   have hI3 := hI2.drew.kept hN2.2
   have hR2 := hN2.rd
   try simp only [Act.put, putA, putB, putC]
   refine wpE_do (i := 5) (o := ⟨some 35, .call { callee := .value (.func 54), args := #[.tmp 30, .tmp 34], argTypes := #[67, 22] }, 67, "sponge.go:47", #[⟨0, .data⟩, ⟨4, .data⟩, ⟨4, .chain⟩], none⟩) (by kernel_rfl) rfl (by rfl) fun K hK => ?_
   go_simp
   refine (take_any _ (fuN r l j) (fuN_lt r l j) rfl _ _ (by rw [lbL_length]; exact h2) _ hR2 hI3.t).mono ?_
   rintro e w3 ⟨rfl, hB3⟩
   refine hK.out _ _ hB3 ?_
   clear hK K
   have hI4 := hI3.kept hB3
   have r3 := hI4.a
   try simp only [Act.put, putA, putB, putC]
   refine wpE_last (o := ⟨none, .store 67 (.tmp 6) (.tmp 35), 0, "sponge.go:47", #[⟨5, .data⟩, ⟨5, .chain⟩, ⟨0, .phase⟩, ⟨1, .phase⟩, ⟨2, .phase⟩, ⟨3, .phase⟩, ⟨4, .phase⟩, ⟨5, .phase⟩], none⟩) (by kernel_rfl) (by kernel_rfl) rfl (by rfl) fun K hK => ?_
   refine wp_store_row 67 _ _ (by rfl) _ (by rfl) (by rfl) r3 (by simp [stL_length]) (arrInfo _) ?_
   intro w4 r4 hw4
   refine hK.out _ _ ?_
   clear hK K
   try simp only [Act.put, putA, putB, putC]
   have hb4 := hw4.below _ _ (Nat.le_refl _) hI4.b
   go_wp2_with fail
   refine bodyPost_row (p := 6) (ty := 67) rfl rfl rfl r4 Tryd.underlying67 rfl (arrInfo _) ?_
   refine ⟨?_, hb4⟩
   rw [HJ.out, lbL_length]
   refine congrArg Ending.returned (arrV_congr (tkF_congr r (fun _ _ => rfl) fun k hk => ?_))
   rw [HQ.out]
   exact lb_las r s l (by omega) k hk

theorem absorb_any (R S : Int) (s : UInt8) (hS : S = (s.toNat : Int)) (vb : Value) (l : List UInt8) (w : World) (hr : Rd w vb l) (ht : Tabs w) :
  Calls Tryd.prog 42 #[.int .i64 R, .int .u8 S, vb] w fun e w' => e = .returned (arrV (abF R s l)) ∧ Below w.heap.size w w' := by
 by_cases h : 1 ≤ R ∧ R ≤ 200
 ·obtain ⟨r, rfl⟩ : ∃ r : Nat, R = r := ⟨R.toNat, by omega⟩
  have e : arrV (abF (r : Int) s l) = arrV (tkF (fuN r l (l.length / r)) (lasB r s l) r) := by
   unfold abF
   rw [if_pos h, Int.toNat_natCast]
   exact arrV_congr fun k hk => abs_eq r s l (by omega) k hk
  rw [e]
  exact absorb_at r (by omega) (by omega) s S hS vb l w hr ht
 ·have e : abF R s l = fun _ => 0 := by unfold abF; rw [if_neg h]
  rw [e]
  exact absorb_zero R S h vb w
end Go.Proofs.YtdlmmcilembjgaaDoor

namespace Go.Proofs.YtdlmmcilembjgaaDoor
end Go.Proofs.YtdlmmcilembjgaaDoor

namespace Go.Proofs.YtdlmmcilembjgaaDoor
open Go.ChangeShapes Go.WideShapes Go.ChangeAt Go.RowKit
set_option linter.unusedSimpArgs false
set_option linter.unusedVariables false

theorem NewI.from {k : IntKind} {e : TypeId} {w wr w2 : World} {v : Value} {l : List Int} (h : NewI k e wr v l w2) (hb : Below w.heap.size w wr) : NewI k e w v l w2 := by
 refine ⟨⟨h.1.1, h.1.2.imp id ?_⟩, hb.trans (h.2.mono hb.size)⟩
 rintro ⟨g, cap, cur, e1, h2, h3⟩
 exact ⟨g, cap, cur, e1, Nat.le_trans hb.size h2, h3⟩
def AtI (e : TypeId) (w : World) (va : Value) (v : Value) (f : Nat → Nat) (wr : World) : Prop := (v = va ∧ RdI .u64 w va (stL f) ∧ Below w.heap.size w wr) ∨ NewI .u64 e w v (stL f) wr
theorem AtI.rd {e : TypeId} {w wr : World} {va v : Value} {f : Nat → Nat} (h : AtI e w va v f wr) : RdI .u64 wr v (stL f) := by
 rcases h with ⟨rfl, h, hb⟩ | h
 ·exact h.kept hb
 ·exact h.rd
theorem AtI.kept {e : TypeId} {w wr w2 : World} {va v : Value} {f : Nat → Nat} (h : AtI e w va v f wr) (hb : Below wr.heap.size wr w2) : AtI e w va v f w2 := by
 rcases h with ⟨rfl, h, hb0⟩ | h
 ·exact .inl ⟨rfl, h, stepB hb0 hb⟩
 ·exact .inr (h.kept hb)
end Go.Proofs.YtdlmmcilembjgaaDoor

namespace Go.Proofs.YtdlmmcilembjgaaDoor
end Go.Proofs.YtdlmmcilembjgaaDoor

namespace Go.Proofs.YtdlmmcilembjgaaDoor
open Go.ChangeShapes Go.WideShapes Go.ChangeAt Go.RowKit
set_option linter.unusedSimpArgs false
set_option linter.unusedVariables false

theorem otL_first (f : Nat → Nat) (r n : Nat) (h : n ≤ r) : otL f r n = bsP f n := by
 unfold otL bsP
 refine List.map_congr_left fun k hk => ?_
 have := List.mem_range.1 hk
 unfold smF
 rw [Nat.div_eq_of_lt (by omega), Nat.mod_eq_of_lt (by omega)]
 rfl

set_option maxHeartbeats 400000 in
theorem sum256_any (vb : Value) (l : List UInt8) (w : World) (hr : Rd w vb l) (ht : Tabs w) :
  Calls Tryd.prog 29 #[vb] w fun e w' => ∃ v, e = .returned v ∧ New 5 w v (otL (abF 136 6 l) 136 32) w' := by
 go_enter Tryd.func29, Tryd.ntmps29
 go_wp2_with fail
 refine (absorb_any 136 6 6 rfl _ l _ hr ht).mono ?_
 rintro e w2 ⟨rfl, hB⟩
 go_wp2_with fail
 refine (first_any _ (abF 136 6 l) (abF_lt _ _ _) rfl 32 (by omega) _).mono ?_
 rintro e w3 ⟨v3, rfl, hN3⟩
 go_wp2
 go_ret
 rw [otL_first _ _ _ (by omega)]
 exact ⟨_, rfl, hN3.from hB⟩

theorem convS {w : World} {v : Value} {l : List UInt8} (h : Rd w v l) : (convert 22 9 v).run Tryd.prog w = .ok (.string ⟨l.toArray⟩) w := h.conv Tryd.underlying22 Tryd.underlying5 Tryd.underlying9
theorem New.slice {e : TypeId} {w w' : World} {v : Value} {l : List UInt8} (h : New e w v l w') (hl : l ≠ []) : ∃ g cap, v = .slice (some ⟨g, 0, none⟩) l.length cap ∧ l.length ≤ cap := by
 have hpos : 0 < l.length := List.length_pos_iff.2 hl
 rcases h.1.2 with ⟨h', h0⟩ | ⟨g, cap, cur, h', hb, hg, hn, hm, hs, ht⟩
 ·omega
 ·exact ⟨g, cap, h', hn⟩
theorem alloc136 (w : World) : (Instr.alloc 73 true (.tuple #[])).run Tryd.prog w = .ok (.pointer (some ⟨w.heap.size, 0, none⟩)) (w.alloc (.cells ((byI (List.replicate 136 0)).map (Value.int .u8)).toArray 73)) := by kernel_rfl
theorem info136 {l : List UInt8} (h : l.length = 136) : (Tryd.prog.info? 73).map (·.size) = some (byI l).length := by
 rw [byI_length, h]
 kernel_rfl
theorem ne136 {l : List UInt8} (h : l.length = 136) : byI l ≠ [] := byI_ne (by rw [← List.length_pos_iff]; omega)
theorem max136 {l : List UInt8} (h : l.length = 136) : (byI l).length ≤ maxLen := by
 rw [byI_length, h]
 decide
def zs136 : List UInt8 := List.replicate 136 0
theorem zs136_length : zs136.length = 136 := List.length_replicate
theorem zs_lay (k : List UInt8) : kyS k ++ zs136.drop (kyS k).length = kyL k := by
 unfold zs136 kyL
 rw [List.drop_replicate]

set_option maxRecDepth 100000 in
set_option maxHeartbeats 1000000 in
theorem lay_any (vk : Value) (k : List UInt8) (w : World) (hr : Rd w vk k) (ht : Tabs w) :
  Calls Tryd.prog 51 #[vk] w fun e w' => e = .returned (arB (kyL k)) ∧ Below w.heap.size w w' := by
 obtain ⟨ak, capk, rfl, hcapk, hmaxk, hnilk, -⟩ := id hr
 unfold maxLen at hmaxk
 have hK1 := kyS_length k
 have HK2 : Hid ((kyL k).length = 136) := kyL_length k
 have HZ : Hid _ := zs_lay k
 have hz := zs136_length
 go_enter Tryd.func51, Tryd.ntmps51
 go_wp2_with (refine wpList_alloc_row (k := .u8) rfl 73 rfl (byI zs136) (alloc136 _) (ne136 hz) (max136 hz) ?_)
 intro w1 r1 b1 s1
 rw [byI_length, hz] at r1
 have hr1 := hr.kept b1
 have ht1 := ht.kept b1
 have HZ2 : Hid (zs136.length = 136) := hz
 clear hr ht hz
 by_cases hlong : 136 < k.length
 case' pos =>
  have HS : Hid (s2L k = kyS k) := by show _ = _; unfold kyS; rw [if_pos hlong]
  have hd : decide ((136 : Int) < (k.length : Int)) = true := decide_eq_true (by omega)
  have hlI : (136 : Int) < (k.length : Int) := by omega
  go_wp2_with fail
  refine (sum256_any _ k _ hr1 ht1).mono ?_
  rintro e w2 ⟨v2, rfl, hN2⟩
  have b2 := hN2.2
  have hR2 : Rd w2 v2 (kyS k) := by rw [← HS.out]; exact hN2.rd
  have r2 := r1.kept b2
  clear HS hN2 hd hlI hlong
 case' neg =>
  have HS : Hid (k = kyS k) := by show _ = _; unfold kyS; rw [if_neg hlong]
  have hd : decide ((136 : Int) < (k.length : Int)) = false := decide_eq_false (by omega)
  have hlI : (k.length : Int) ≤ 136 := by omega
  have b2 := Below.refl w1.heap.size w1
  have hR2 : Rd w1 (.slice ak k.length capk) (kyS k) := by rw [← HS.out]; exact hr1
  have r2 := r1
  clear HS hlong
 all_goals
  go_wp2_with (refine wpList_alloc_row (k := .u8) rfl 73 rfl (byI zs136) (alloc136 _) (ne136 HZ2.out) (max136 HZ2.out) ?_)
  intro w3 r3 b3 s3
  rw [byI_length, HZ2.out] at r3
  have hR3 := hR2.kept b3
  have b13 := stepB b2 b3
  have r23 := r2.kept b3
  have hge := b2.size
  clear hR2 r2
  go_wp2_with (refine wpList_copy_row (w := w1) rfl _ _ 22 rfl 5 Tryd.underlying22 (by kernel_rfl) zs136 rfl HZ2.out.symm r3 _ (kyS k) rfl hR3 (by rw [HZ2.out]; exact hK1) (by rw [← List.length_pos_iff, HZ2.out]; omega) b13 hge ?_)
  intro w4 r4 b4
  rw [HZ.out] at r4
  have z4 := b4.size
  clear hR3 r3 r23
  have r5 := r1.kept b4
  go_wp2_with (first | refine wpList_load_row rfl 73 _ rfl rfl r4 _ Tryd.underlying73 rfl (info136 HK2.out) ?_ | (refine wpList_store_row rfl 73 _ _ rfl (byI (kyL k)) rfl rfl r5 (by rw [byI_length, byI_length, HZ2.out, HK2.out]) (info136 HZ2.out) ?_; intro w6 r6 hw6))
  refine bodyPost_row (p := 2) (ty := 73) rfl rfl rfl r6 Tryd.underlying73 rfl (info136 HK2.out) ?_
  exact ⟨rfl, hw6.below _ _ (by omega) (stepB b1 b4)⟩

def mxD (l : List UInt8) (c : UInt8) (j : Nat) : List UInt8 := mxP l c j ++ l.drop j
theorem mxD_zero (l : List UInt8) (c : UInt8) : mxD l c 0 = l := by simp [mxD, mxP]
theorem mxD_length (l : List UInt8) (c : UInt8) (j : Nat) (h : j ≤ l.length) : (mxD l c j).length = l.length := by simp [mxD, mxP]; omega
theorem mxD_get (l : List UInt8) (c : UInt8) (j : Nat) : (mxD l c j).getD j 0 = l.getD j 0 := by
 simp [mxD, mxP_length, List.getElem?_append_right]
theorem mxD_set (l : List UInt8) (c : UInt8) (j : Nat) (h : j < l.length) : (mxD l c j).set j (l.getD j 0 ^^^ c) = mxD l c (j + 1) := by
 unfold mxD
 rw [List.set_append_right _ _ (by rw [mxP_length]; exact Nat.le_refl _), mxP_length, Nat.sub_self, List.drop_eq_getElem_cons h, List.set_cons_zero, ← mxP_next, List.append_assoc]
 rfl
theorem mxD_full (l : List UInt8) (c : UInt8) (n : Nat) (h : l.length = n) : mxD l c n = mxP l c n := by
 unfold mxD
 rw [List.drop_eq_nil_of_le (by omega), List.append_nil]

set_option maxRecDepth 100000 in
set_option maxHeartbeats 1000000 in
theorem add_any (A : Array Value) (l : List UInt8) (hl : l.length = 136) (hA : A = ((byI l).map (Value.int .u8)).toArray) (c : UInt8) (C : Int) (hC : C = (c.toNat : Int)) (w : World) :
  Calls Tryd.prog 52 #[.agg A, .int .u8 C] w fun e w' => e = .returned (arB (mxP l c 136)) ∧ Below w.heap.size w w' := by
 subst hC
 have hz := zs136_length
 go_enter Tryd.func52, Tryd.ntmps52
 go_wp2_with (refine wpList_box_row (k := .u8) rfl 73 _ rfl (byI l) (by rw [← hA]; rfl) (ne136 hl) (max136 hl) ?_)
 intro w1 r1 b1 s1
 rw [byI_length, hl] at r1
 go_wp2_with (refine wpList_alloc_row (k := .u8) rfl 73 rfl (byI zs136) (alloc136 _) (ne136 hz) (max136 hz) ?_)
 intro w2 r2 b2 s2
 rw [byI_length, hz] at r2
 have r12 := r1.kept b2
 have b12 := stepB b1 b2
 have HL : Hid (l.length = 136) := hl
 have HZ2 : Hid (zs136.length = 136) := hz
 have hgw : w.heap.size ≠ w1.heap.size := by have := s1.out; omega
 have hgl : w.heap.size ≤ w1.heap.size := by have := s1.out; omega
 clear r1 b2 b1 hA hl hz
 go_wp2
 go_loopw [6] (fun i wr => ∃ j : Nat, j ≤ 136 ∧ i = .int .i64 j ∧ RowAt .u8 73 w.heap.size 136 (byI (mxD l c j)) wr ∧ RowAt .u8 73 w1.heap.size 136 (byI zs136) wr ∧ Below w.heap.size w wr) (fun i _ => 136 - (intOf i).toNat)
 case atStart => exact ⟨0, by omega, rfl, by rw [mxD_zero]; exact r12, r2, b12⟩
 case round =>
  obtain ⟨j, hj, rfl, ra, rb, hb⟩ := hrel
  clear r12 r2 b12
  by_cases hlt : j < 136
  ·have hd : decide ((j : Int) < 136) = true := decide_eq_true (by omega)
   have hjI : (j : Int) < 136 := by omega
   have hc := ra.cellB (j := j) (by rw [mxD_length _ _ _ (by have := HL.out; omega)]; have := HL.out; omega)
   have hf := ra.free j
   rw [mxD_get] at hc
   have rn := ra.setB j (l.getD j 0 ^^^ c)
   rw [mxD_set _ _ _ (by have := HL.out; omega)] at rn
   have rbn := rb.other (p := ⟨w.heap.size, j, none⟩) hgw (.int .u8 ((l.getD j 0 ^^^ c).toNat : Int))
   have hbn : Below w.heap.size w (wr.setCell ⟨w.heap.size, j, none⟩ (.int .u8 ((l.getD j 0 ^^^ c).toNat : Int))) := (Wrote.set w.heap.size j wr _).below _ _ (Nat.le_refl _) hb
   have x1 := byte_xor (l.getD j 0) c
   generalize l.getD j 0 = q at hc rn rbn hbn x1
   clear ra rb hb
   go_wp2
   go_roundw
   case rel => exact ⟨j + 1, by omega, by go_num, rn, rbn, hbn⟩
   case measure => simp [intOf]; omega
  ·have hje : j = 136 := by omega
   have hd : decide ((j : Int) < 136) = false := decide_eq_false (by omega)
   have hjI : (136 : Int) ≤ (j : Int) := by omega
   rw [hje, mxD_full _ _ _ HL.out] at ra
   have HM : Hid ((mxP l c 136).length = 136) := mxP_length _ _ _
   clear hje
   go_wp2_with (first | refine wpList_load_row rfl 73 _ rfl rfl ra _ Tryd.underlying73 rfl (info136 HM.out) ?_ | (refine wpList_store_row rfl 73 _ _ rfl (byI (mxP l c 136)) rfl rfl rb (by rw [byI_length, byI_length, HZ2.out, HM.out]) (info136 HZ2.out) ?_; intro w6 r6 hw6))
   refine bodyPost_row (p := 4) (ty := 73) rfl rfl rfl r6 Tryd.underlying73 rfl (info136 HM.out) ?_
   exact ⟨rfl, hw6.below _ _ hgl hb⟩
theorem RdL.lit2 {w : World} {e : TypeId} {v1 v2 : Value} {l1 l2 : List UInt8} (h1 : Rd w v1 l1) (h2 : Rd w v2 l2) : RdL (w.alloc (.cells #[v1, v2] e)) (.slice (some ⟨w.heap.size, 0, none⟩) 2 2) [v1, v2] [l1, l2] :=
 RdL.lit _ _ rfl rfl rfl (by simp [maxLen]) rfl (fun i hi => by
  match i with
  | 0 => exact h1
  | 1 => exact h2
  | i + 2 => exact absurd hi (by simp))
theorem New.two {e : TypeId} {w w' : World} {v : Value} {l1 l2 : List UInt8} (h : New e w v [l1, l2].flatten w') : New e w v (l1 ++ l2) w' := by
 simpa using h

set_option maxRecDepth 100000 in
set_option maxHeartbeats 2000000 in
theorem mac_any (vk vb : Value) (k b : List UInt8) (hbl : b.length ≤ 100000) (w : World) (hrk : Rd w vk k) (hrb : Rd w vb b) (ht : Tabs w) :
  Calls Tryd.prog 39 #[vk, vb] w fun e w' => ∃ v, e = .returned v ∧ New 5 w v (mcF k b) w' := by
 have HK : Hid ((kyL k).length = 136) := kyL_length k
 have HZ : Hid (zs136.length = 136) := zs136_length
 have HI : Hid ((mxP (kyL k) 54 136).length = 136) := mxP_length _ _ _
 have HO : Hid ((mxP (kyL k) 92 136).length = 136) := mxP_length _ _ _
 have HF : Hid (s2L (mxP (kyL k) 92 136 ++ s2L (mxP (kyL k) 54 136 ++ b)) = mcF k b) := rfl
 have HB : Hid (b.length ≤ 100000) := hbl
 clear hbl
 go_enter Tryd.func39, Tryd.ntmps39
 go_wp2_with fail
 refine (lay_any _ k _ hrk ht).mono ?_
 rintro e w1 ⟨rfl, b1⟩
 go_wp2_with (refine wpList_alloc_row (k := .u8) rfl 73 rfl (byI zs136) (alloc136 _) (ne136 HZ.out) (max136 HZ.out) ?_)
 intro w2 r2 b2 s2
 rw [byI_length, HZ.out] at r2
 go_wp2_with (refine wpList_store_row rfl 73 _ _ rfl (byI (kyL k)) rfl rfl r2 (by rw [byI_length, byI_length, HZ.out, HK.out]) (info136 HZ.out) ?_)
 intro w3 r3 hw3
 have b13 := hw3.below _ _ (Nat.le_refl _) b2
 have b3 := stepB b1 b13
 have z3 := r3.lt
 clear r2 b2 s2 hw3 b1 b13
 go_wp2_with (refine wpList_load_row rfl 73 _ rfl rfl r3 _ Tryd.underlying73 rfl (info136 HK.out) ?_)
 refine (add_any _ (kyL k) HK.out rfl 54 54 rfl _).mono ?_
 rintro e w4 ⟨rfl, b4⟩
 have r4 := r3.kept b4
 have z4 := b4.size
 clear r3
 go_wp2_with (refine wpList_alloc_row (k := .u8) rfl 73 rfl (byI zs136) (alloc136 _) (ne136 HZ.out) (max136 HZ.out) ?_)
 intro w5 r5 b5 s5
 rw [byI_length, HZ.out] at r5
 have r45 := r4.kept b5
 go_wp2_with (refine wpList_store_row rfl 73 _ _ rfl (byI (mxP (kyL k) 54 136)) rfl rfl r5 (by rw [byI_length, byI_length, HZ.out, HI.out]) (info136 HZ.out) ?_)
 intro w6 r6 hw6
 have b46 := hw6.below _ _ (Nat.le_refl _) b5
 have b6 := stepB (stepB b3 b4) b46
 have z6 := r6.lt
 have r46 := r45.wrote hw6 (by omega)
 clear r45 r5 b5 s5 hw6 b46 b3 b4 r4
 go_wp2_with (refine wpList_load_row rfl 73 _ rfl rfl r46 _ Tryd.underlying73 rfl (info136 HK.out) ?_)
 refine (add_any _ (kyL k) HK.out rfl 92 92 rfl _).mono ?_
 rintro e w7 ⟨rfl, b7⟩
 have r7 := r6.kept b7
 have z7 := b7.size
 clear r6 r46
 go_wp2_with (refine wpList_alloc_row (k := .u8) rfl 73 rfl (byI zs136) (alloc136 _) (ne136 HZ.out) (max136 HZ.out) ?_)
 intro w8 r8 b8 s8
 rw [byI_length, HZ.out] at r8
 have r78 := r7.kept b8
 go_wp2_with (refine wpList_store_row rfl 73 _ _ rfl (byI (mxP (kyL k) 92 136)) rfl rfl r8 (by rw [byI_length, byI_length, HZ.out, HO.out]) (info136 HZ.out) ?_)
 intro w9 r9 hw9
 have b79 := hw9.below _ _ (Nat.le_refl _) b8
 have b9 := stepB (stepB b6 b7) b79
 have r79 := r78.wrote hw9 (by omega)
 have hrb9 := hrb.kept b9
 have ht9 := ht.kept b9
 have hI9 := r79.rdB
 have hO9 := r9.rdB
 rw [HI.out] at hI9
 rw [HO.out] at hO9
 have hB : b.length ≤ 100000 := HB.out
 generalize hgI : mxP (kyL k) 54 136 = lI at HI HF hI9
 generalize hgO : mxP (kyL k) 92 136 = lO at HO HF hO9
 clear r78 r8 b8 s8 hw9 b79 b6 b7 r7 r79 r9 hrb hrk ht hgI hgO z3 z4 z6 z7
 have HB9 : Hid _ := b9
 clear b9 HZ HK
 obtain ⟨ab, cb, rfl, -, -, -, -⟩ := id hrb9
 have hL1 := RdL.lit2 (e := 22) hI9.drew hrb9.drew
 have g1 := growB (w := w9.drew) (.cells #[.slice (some ⟨w4.heap.size, 0, none⟩) 136 136, .slice ab b.length cb] 22)
 have ht10 := (ht9.kept (Below.refl _ _).drew).kept g1
 have hO10 := hO9.drew.kept g1
 have h1 : totL [lI, b] ≤ 1000000000 := by have := HI.out; simp [totL]; omega
 have HT1 : Hid _ := h1
 clear h1 hI9 hrb9 ht9 hO9 hB
 go_wp2_with fail
 refine wpG_begin (by kernel_rfl) ?_
 refine wpG_t (i := 0) (oi := ⟨some 14, .slice 73 (.tmp 7) none none none, 22, "hkdf.go:23", #[], none⟩) (v := ?_) ?_ ?_
 rotate_left
 ·intro W hW; go_simp <;> with_reducible rfl
 try simp only [Act.put, putA, putB, putC]
 refine wpG_t (i := 1) (oi := ⟨some 15, .slice 73 (.tmp 6) none none none, 22, "hkdf.go:23", #[], none⟩) (v := ?_) ?_ ?_
 rotate_left
 ·intro W hW; go_simp <;> with_reducible rfl
 try simp only [Act.put, putA, putB, putC]
 refine wpG_t (i := 2) (oi := ⟨some 16, .move (.tmp 1), 22, "hkdf.go:23", #[], none⟩) (v := ?_) ?_ ?_
 rotate_left
 ·intro W hW; go_simp <;> with_reducible rfl
 try simp only [Act.put, putA, putB, putC]
 refine wpG_do (i := 3) (o := ⟨some 17, .buildSlice 42 2 #[(0, .tmp 15), (1, .tmp 16)], 42, "hkdf.go:23", #[⟨1, .data⟩, ⟨2, .data⟩], none⟩) (by kernel_rfl) rfl (by rfl) fun K hK => ?_
 go_simp
 refine hK.out _ _ g1 ?_
 clear hK K
 try simp only [Act.put, putA, putB, putC]
 refine wpG_do (i := 4) (o := ⟨some 18, .call { callee := .value (.func 22), args := #[.tmp 17], argTypes := #[42] }, 22, "hkdf.go:23", #[⟨3, .data⟩], none⟩) (by kernel_rfl) rfl (by rfl) fun K hK => ?_
 go_simp
 refine (join_any _ _ _ _ hL1 HT1.out).mono ?_
 rintro e w11 ⟨v11, rfl, hN11⟩
 refine hK.out _ _ hN11.2 ?_
 clear hK K
 have ht11 := ht10.kept hN11.2
 have hO11 := hO10.kept hN11.2
 have g11 := stepB g1 hN11.2
 have hR11 := hN11.two.rd
 try simp only [Act.put, putA, putB, putC]
 refine wpG_do (i := 5) (o := ⟨some 19, .call { callee := .value (.func 29), args := #[.tmp 18], argTypes := #[22] }, 22, "hkdf.go:23", #[⟨4, .data⟩, ⟨4, .chain⟩], none⟩) (by kernel_rfl) rfl (by rfl) fun K hK => ?_
 go_simp
 refine (sum256_any _ (lI ++ b) _ hR11 ht11).mono ?_
 rintro e w12 ⟨v12, rfl, hN12⟩
 refine hK.out _ _ hN12.2 ?_
 clear hK K
 have ht12 := ht11.kept hN12.2
 have hO12 := hO11.kept hN12.2
 have g12 := stepB g11 hN12.2
 have hR12 : Rd w12 v12 (s2L (lI ++ b)) := hN12.rd
 obtain ⟨a12, c12, rfl, -, -, -, -⟩ := id hR12
 have hL2 := RdL.lit2 (e := 22) hO12 hR12
 have g2 := growB (w := w12) (.cells #[.slice (some ⟨w7.heap.size, 0, none⟩) 136 136, .slice a12 (s2L (lI ++ b)).length c12] 22)
 have ht13 := ht12.kept g2
 have h2 : totL [lO, s2L (lI ++ b)] ≤ 1000000000 := by have := HO.out; simp [totL, s2L_length]; omega
 have HT2 : Hid _ := h2
 clear h2
 try simp only [Act.put, putA, putB, putC]
 refine wpG_do (i := 6) (o := ⟨some 20, .buildSlice 42 2 #[(0, .tmp 14), (1, .tmp 19)], 42, "hkdf.go:23", #[⟨0, .data⟩, ⟨5, .data⟩], none⟩) (by kernel_rfl) rfl (by rfl) fun K hK => ?_
 go_simp
 refine hK.out _ _ g2 ?_
 clear hK K
 try simp only [Act.put, putA, putB, putC]
 refine wpG_do (i := 7) (o := ⟨some 21, .call { callee := .value (.func 22), args := #[.tmp 20], argTypes := #[42] }, 22, "hkdf.go:23", #[⟨6, .data⟩, ⟨5, .chain⟩], none⟩) (by kernel_rfl) rfl (by rfl) fun K hK => ?_
 go_simp
 refine (join_any _ _ _ _ hL2 HT2.out).mono ?_
 rintro e w14 ⟨v14, rfl, hN14⟩
 refine hK.out _ _ hN14.2 ?_
 clear hK K
 have ht14 := ht13.kept hN14.2
 have g14 := stepB (stepB g12 g2) hN14.2
 have hR14 := hN14.two.rd
 try simp only [Act.put, putA, putB, putC]
 refine wpG_do (i := 8) (o := ⟨some 22, .call { callee := .value (.func 29), args := #[.tmp 21], argTypes := #[22] }, 22, "hkdf.go:23", #[⟨7, .data⟩, ⟨7, .chain⟩], none⟩) (by kernel_rfl) rfl (by rfl) fun K hK => ?_
 go_simp
 refine (sum256_any _ (lO ++ s2L (lI ++ b)) _ hR14 ht14).mono ?_
 rintro e w15 ⟨v15, rfl, hN15⟩
 refine hK.out _ _ hN15.2 ?_
 clear hK K
 try simp only [Act.put, putA, putB, putC]
 refine wpG_t (i := 9) (oi := ⟨some 4, .assign (.tmp 22), 22, "hkdf.go:23", #[⟨8, .data⟩, ⟨8, .chain⟩, ⟨0, .phase⟩, ⟨1, .phase⟩, ⟨2, .phase⟩, ⟨3, .phase⟩, ⟨4, .phase⟩, ⟨5, .phase⟩, ⟨6, .phase⟩, ⟨7, .phase⟩, ⟨8, .phase⟩], none⟩) (v := ?_) ?_ ?_
 rotate_left
 ·intro W hW; go_simp <;> with_reducible rfl
 try simp only [Act.put, putA, putB, putC]
 refine wpG_done (by kernel_rfl) ?_
 go_wp2
 go_ret
 refine ⟨_, rfl, ?_⟩
 rw [← HF.out]
 exact hN15.from (stepB HB9.out.drew g14)
end Go.Proofs.YtdlmmcilembjgaaDoor
