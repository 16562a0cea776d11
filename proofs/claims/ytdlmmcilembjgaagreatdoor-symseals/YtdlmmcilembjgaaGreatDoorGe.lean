/- What functions of the program, or of the reference, answer: contracts; several texts in one. -/
import Derived.Test.YtdlmmcilembjgaaGreatDoorGa
import Derived.Test.YtdlmmcilembjgaaGreatDoorBase
import Derived.Test.YtdlmmcilembjgaaGreatDoorGb
import Derived.Test.YtdlmmcilembjgaaGreatDoorRows
import Derived.WalkSpells
import Derived.RegionTactic
import Derived.BigRegion
import Derived.Deep.QuietTactic
import Derived.BigQuiet

namespace Go.Proofs.YtdlmmcilembjgaaGreatDoor
set_option linter.unusedSimpArgs false
set_option linter.unusedVariables false

theorem turnN_zero (n : Nat) : turnN 0 n = 0 := by
 unfold turnN rotN
 split <;> simp
theorem thL_zero (f : Nat → Nat) (h : ∀ i, f i = 0) (k : Nat) : thL f k = 0 := by
 unfold thL colN
 simp [h, turnN_zero]
theorem rhL_zero (f : Nat → Nat) (h : ∀ i, f i = 0) (k : Nat) : rhL f k = 0 := by
 unfold rhL
 simp [h, turnN_zero]
theorem piF_zero (f : Nat → Nat) (h : ∀ i, f i = 0) (k : Nat) : piF f k = 0 := h _
theorem chL_zero (f : Nat → Nat) (h : ∀ i, f i = 0) (k : Nat) : chL f k = 0 := by
 unfold chL
 simp [h]
theorem noughts_kept (k : Nat) : chL (piF (rhL (thL fun _ => 0))) k = 0 := chL_zero _ (piF_zero _ (rhL_zero _ (thL_zero _ fun _ => rfl))) k
theorem rdL_noughts (i : Nat) : rdL (fun _ => 0) i = ioK (fun _ => 0) i := by
 unfold rdL
 congr 1
 funext k
 exact noughts_kept k

end Go.Proofs.YtdlmmcilembjgaaGreatDoor

namespace Go.Proofs.YtdlmmcilembjgaaGreatDoor
open Go.ChangeShapes Go.WideShapes Go.ChangeAt Go.RowKit
set_option linter.unusedSimpArgs false
set_option linter.unusedVariables false

theorem arrInfo (f : Nat → Nat) : (Tryz.prog.info? 73).map (·.size) = some (stL f).length := by rw [stL_length]; kernel_rfl
abbrev arrV (f : Nat → Nat) : Value := .agg ((stL f).map (Value.int .u64)).toArray
theorem zeros25 : #[Value.int .u64 0, .int .u64 0, .int .u64 0, .int .u64 0, .int .u64 0, .int .u64 0, .int .u64 0, .int .u64 0, .int .u64 0, .int .u64 0, .int .u64 0, .int .u64 0, .int .u64 0, .int .u64 0, .int .u64 0, .int .u64 0, .int .u64 0, .int .u64 0, .int .u64 0, .int .u64 0, .int .u64 0, .int .u64 0, .int .u64 0, .int .u64 0, .int .u64 0] = ((stL fun _ => 0).map (Value.int .u64)).toArray := by
 rw [← stL_zero]
 rfl
structure KI (w : World) (F : Nat → Nat) (wr : World) : Prop where
 a : RowAt .u64 73 w.heap.size 25 (stL F) wr
 r : RowAt .u64 73 (w.heap.size + 1) 25 (stL fun _ => 0) wr
 b : Below w.heap.size w wr
 t : Tabs wr
 two : 3 < w.heap.size
theorem KI.drew {w wr : World} {F : Nat → Nat} (h : KI w F wr) : KI w F wr.drew := ⟨h.a.drew, h.r.drew, h.b.drew, h.t.kept (Below.refl _ _).drew, h.two⟩
theorem KI.kept {w wr w2 : World} {F : Nat → Nat} (h : KI w F wr) (hb : Below wr.heap.size wr w2) : KI w F w2 := ⟨h.a.kept hb, h.r.kept hb, stepB h.b hb, h.t.kept hb, h.two⟩
theorem KI.set {w wr : World} {F G : Nat → Nat} (h : KI w F wr) (j : Nat) (x : Int) (e : (stL F).set j x = stL G) : KI w G (wr.setCell ⟨w.heap.size, j, none⟩ (.int .u64 x)) := by
 have hw := Wrote.set w.heap.size j wr (.int .u64 x)
 have h1 := h.a.set j x
 rw [e] at h1
 exact ⟨h1, h.r.wrote hw (by omega), hw.below _ _ (Nat.le_refl _) h.b, h.t.wrote hw h.two, h.two⟩
theorem KI.alloc {w wr : World} {F : Nat → Nat} (h : KI w F wr) (o : Obj) : KI w F (wr.alloc o) := h.kept (growB o)
theorem KI.other {w wr w2 : World} {F : Nat → Nat} {g : Nat} (h : KI w F wr) (hw : Wrote g wr w2) (hg : w.heap.size + 2 ≤ g) : KI w F w2 :=
 ⟨h.a.wrote hw (by omega), h.r.wrote hw (by omega), hw.below _ _ (by omega) h.b, h.t.wrote hw (by have := h.two; omega), h.two⟩
theorem KI.whole {w wr w2 : World} {F G : Nat → Nat} (h : KI w F wr) (hr : RowAt .u64 73 w.heap.size 25 (stL G) w2) (hw : Wrote w.heap.size wr w2) : KI w G w2 :=
 ⟨hr, h.r.wrote hw (by omega), hw.below _ _ (Nat.le_refl _) h.b, h.t.wrote hw h.two, h.two⟩
theorem two_rows (f : Nat → Nat) (w : World) (cs : Array Value) (hcs : cs = ((stL fun _ => 0).map (Value.int .u64)).toArray) (t : Tabs w) :
  ∃ W, (w.alloc (.cells ((stL f).map (Value.int .u64)).toArray 73)).alloc (.cells cs 73) = W ∧ KI w f W ∧ W.heap.size = w.heap.size + 2 := by
 have r1 : RowAt .u64 73 w.heap.size 25 (stL f) (w.alloc (.cells ((stL f).map (Value.int .u64)).toArray 73)) := RowAt.fresh (stL f) rfl rfl (stL_length f).symm (stL_ne f) (by rw [stL_length]; simp [maxLen])
 have r2 : RowAt .u64 73 (w.heap.size + 1) 25 (stL fun _ => 0) ((w.alloc (.cells ((stL f).map (Value.int .u64)).toArray 73)).alloc (.cells cs 73)) := RowAt.fresh (stL fun _ => 0) hcs (by simp) (stL_length _).symm (stL_ne _) (by rw [stL_length]; simp [maxLen])
 have hb := stepB (growB (w := w) (.cells ((stL f).map (Value.int .u64)).toArray 73)) (growB (.cells cs 73))
 exact ⟨_, rfl, ⟨r1.kept (growB _), r2, hb, t.kept hb, t.two⟩, by simp⟩

set_option maxHeartbeats 400000 in
theorem kIota_out (A : Array Value) (f : Nat → Nat) (hA : A = ((stL f).map (Value.int .u64)).toArray) (r : Int) (hr : decide (0 ≤ r ∧ r ≤ 23) = false) (w : World) (ht : Tabs w) :
  Calls Tryz.prog 100 #[.agg A, .int .i64 r] w fun e w' => e = .returned (arrV f) ∧ Below w.heap.size w w' := by
 have HA : Hid _ := hA
 clear hA
 go_enter Tryz.func100, Tryz.ntmps100
 go_wp2_with fail
 rw [HA.out]
 obtain ⟨W, hW, hI, hs⟩ := two_rows f w _ zeros25 ht
 rw [hW]
 clear hW ht
 refine (isRound_any _ _).mono ?_
 rintro e w1 ⟨rfl, rfl⟩
 rw [hr]
 have r1 := hI.a
 have r2 := hI.r
 go_wp2_with (first | refine wpList_load_row rfl 73 _ rfl rfl r1 _ Tryz.underlying73 rfl (arrInfo _) ?_ | (refine wpList_store_row rfl 73 _ _ rfl (stL f) rfl rfl r2 (by simp [stL_length]) (arrInfo _) ?_; intro w2 r3 hw))
 refine bodyPost_row (p := 4) (ty := 73) rfl rfl rfl r3 Tryz.underlying73 rfl (arrInfo _) ?_
 exact ⟨rfl, hw.below _ _ (by omega) hI.b⟩

set_option maxHeartbeats 400000 in
theorem kIota_in (A : Array Value) (f : Nat → Nat) (hf : ∀ i, f i < 18446744073709551616) (hA : A = ((stL f).map (Value.int .u64)).toArray) (n : Nat) (hlt : n < 24) (w : World) (ht : Tabs w) :
  Calls Tryz.prog 100 #[.agg A, .int .i64 (n : Int)] w fun e w' => e = .returned (arrV (ioK f n)) ∧ Below w.heap.size w w' := by
 have hr : decide (0 ≤ (n : Int) ∧ (n : Int) ≤ 23) = true := decide_eq_true (by omega)
 have HA : Hid _ := hA
 clear hA
 go_enter Tryz.func100, Tryz.ntmps100
 go_wp2_with fail
 rw [HA.out]
 obtain ⟨W, hW, hI, hs⟩ := two_rows f w _ zeros25 ht
 rw [hW]
 clear hW ht
 refine (isRound_any _ _).mono ?_
 rintro e w1 ⟨rfl, rfl⟩
 rw [hr]
 clear hr
 have hlt2 : ((n : Nat) : Int) < 24 := by omega
 have hc := hI.a.cell (j := 0) (by rw [stL_length]; decide)
 have hcf := hI.a.free 0
 have hk := hI.t.consts n hlt
 rw [stL_get f 0 (by decide)] at hc
 rw [ksT_get n hlt] at hk
 have HS : Hid (∀ x : Int, x = ((f 0 ^^^ kst.getD n 0 : Nat) : Int) → KI w (ioK f n) (w1.setCell ⟨w.heap.size, 0, none⟩ (.int .u64 x))) := by
  intro x hx
  exact hI.set 0 x (by rw [hx]; exact ioKI f n)
 have HX : Hid _ := xorI (f 0) (kst.getD n 0) (hf 0) (kst_lt n hlt)
 generalize f 0 = q0 at hc HX HS
 generalize kst.getD n 0 = q1 at hk HX HS
 have HI : Hid _ := hI
 clear hI hf
 go_wp2_with fail
 refine wpE_begin 7 (by kernel_rfl) ?_
 refine wpE_t (i := 0) (oi := ⟨some 7, .indexAddr 73 (.tmp 2) (.const (.int .i64 0)), 0, "keccak.go:82", #[], none⟩) (v := ?_) ?_ ?_
 rotate_left
 ·intro W hW; go_simp <;> with_reducible rfl
 try simp only [Act.put, putA, putB, putC]
 refine wpE_t (i := 1) (oi := ⟨some 8, .load 27 (.tmp 7), 27, "keccak.go:82", #[⟨0, .data⟩], none⟩) (v := ?_) ?_ ?_
 rotate_left
 ·intro W hW; have hcW := cellU hc hW; go_simp <;> with_reducible rfl
 try simp only [Act.put, putA, putB, putC]
 refine wpE_t (i := 2) (oi := ⟨some 9, .move (.tmp 1), 3, "keccak.go:82", #[], none⟩) (v := ?_) ?_ ?_
 rotate_left
 ·intro W hW; go_simp <;> with_reducible rfl
 try simp only [Act.put, putA, putB, putC]
 refine wpE_t (i := 3) (oi := ⟨some 10, .indexAddr 131 (.global 2) (.tmp 9), 0, "keccak.go:82", #[⟨2, .data⟩], none⟩) (v := ?_) ?_ ?_
 rotate_left
 ·intro W hW; go_simp <;> with_reducible rfl
 try simp only [Act.put, putA, putB, putC]
 refine wpE_t (i := 4) (oi := ⟨some 11, .load 27 (.tmp 10), 27, "keccak.go:82", #[⟨3, .data⟩], none⟩) (v := ?_) ?_ ?_
 rotate_left
 ·intro W hW; have hcW := cellU hk hW; go_simp <;> with_reducible rfl
 try simp only [Act.put, putA, putB, putC]
 refine wpE_t (i := 5) (oi := ⟨some 12, .binOp .xor 27 (.tmp 8) (.tmp 11) 27, 27, "keccak.go:82", #[⟨1, .data⟩, ⟨4, .data⟩], none⟩) (v := ?_) ?_ ?_
 rotate_left
 ·intro W hW; go_simp <;> with_reducible rfl
 try simp only [Act.put, putA, putB, putC]
 refine wpE_t (i := 6) (oi := ⟨some 13, .indexAddr 73 (.tmp 2) (.const (.int .i64 0)), 0, "keccak.go:82", #[⟨0, .phase⟩, ⟨1, .phase⟩, ⟨2, .phase⟩, ⟨3, .phase⟩, ⟨4, .phase⟩, ⟨5, .phase⟩], none⟩) (v := ?_) ?_ ?_
 rotate_left
 ·intro W hW; go_simp <;> with_reducible rfl
 try simp only [Act.put, putA, putB, putC]
 refine wpE_last (o := ⟨none, .store 27 (.tmp 13) (.tmp 12), 0, "keccak.go:82", #[⟨6, .data⟩, ⟨5, .data⟩, ⟨0, .phase⟩, ⟨1, .phase⟩, ⟨2, .phase⟩, ⟨3, .phase⟩, ⟨4, .phase⟩, ⟨5, .phase⟩], none⟩) (by kernel_rfl) (by kernel_rfl) rfl (by rfl) fun K hK => ?_
 go_simp
 refine hK.out _ _ ?_
 clear hK K
 try simp only [Act.put, putA, putB, putC]

 have hI2 := HS.out _ HX.out
 have r1 := hI2.drew.a
 have r2 := hI2.drew.r
 go_wp2_with (first | refine wpList_load_row rfl 73 _ rfl rfl r1 _ Tryz.underlying73 rfl (arrInfo _) ?_ | (refine wpList_store_row rfl 73 _ _ rfl (stL (ioK f n)) rfl rfl r2 (by simp [stL_length]) (arrInfo _) ?_; intro w2 r3 hw))
 refine bodyPost_row (p := 4) (ty := 73) rfl rfl rfl r3 Tryz.underlying73 rfl (arrInfo _) ?_
 exact ⟨rfl, hw.below _ _ (by omega) hI2.drew.b⟩

def ioI (f : Nat → Nat) (r : Int) : Nat → Nat := if 0 ≤ r ∧ r ≤ 23 then ioK f r.toNat else f
theorem kIota_any (A : Array Value) (f : Nat → Nat) (hf : ∀ i, f i < 18446744073709551616) (hA : A = ((stL f).map (Value.int .u64)).toArray) (r : Int) (w : World) (ht : Tabs w) :
  Calls Tryz.prog 100 #[.agg A, .int .i64 r] w fun e w' => e = .returned (arrV (ioI f r)) ∧ Below w.heap.size w w' := by
 by_cases h : 0 ≤ r ∧ r ≤ 23
 ·obtain ⟨n, rfl⟩ : ∃ n : Nat, r = n := ⟨r.toNat, by omega⟩
  have e : ioI f (n : Int) = ioK f n := by unfold ioI; rw [if_pos h, Int.toNat_natCast]
  rw [e]
  exact kIota_in A f hf hA n (by omega) w ht
 ·have e : ioI f r = f := by unfold ioI; rw [if_neg h]
  rw [e]
  exact kIota_out A f hA r (decide_eq_false h) w ht
def rhM (j : Nat) : Nat := if j = 0 then 0 else rhBy (rhTau j)
theorem rhM_lt (j : Nat) : rhM j < 64 := by
 unfold rhM
 split
 ·decide
 ·exact rhBy_lt _
theorem rhM_turn (f : Nat → Nat) (j : Nat) : turnN (f j) (rhM j) = rhL f j := by
 unfold rhM rhL
 by_cases h : j = 0
 ·subst h; rfl
 ·rw [if_neg h, if_neg h]

set_option maxHeartbeats 1000000 in
theorem kRho_any (A : Array Value) (f : Nat → Nat) (hf : ∀ i, f i < 18446744073709551616) (hA : A = ((stL f).map (Value.int .u64)).toArray) (w : World) (ht : Tabs w) :
  Calls Tryz.prog 103 #[.agg A] w fun e w' => e = .returned (arrV (rhL f)) ∧ Below w.heap.size w w' := by
 have HA : Hid _ := hA
 have HF : Hid (∀ i, f i < 18446744073709551616) := hf
 clear hA hf
 go_enter Tryz.func103, Tryz.ntmps103
 go_wp2
 rw [HA.out]
 obtain ⟨W, hW, hI, hs⟩ := two_rows f w _ zeros25 ht
 rw [hW]
 clear hW ht
 go_loopw [4] (fun i wr => ∃ j : Nat, j ≤ 25 ∧ i = .int .i64 j ∧ KI w (upQ f (rhL f) j) wr) (fun i _ => 25 - (intOf i).toNat)
 case atStart => exact ⟨0, by omega, rfl, by have e := upQ_zero f (rhL f); exact ⟨e ▸ hI.a, hI.r, hI.b, hI.t, hI.two⟩⟩
 case round =>
  obtain ⟨j, hj, rfl, hI2⟩ := hrel
  clear hI hs
  by_cases hlt : j < 25
  ·have hd : decide ((j : Int) < 25) = true := decide_eq_true (by omega)
   have hjI : (j : Int) < 25 := by omega
   have hc := hI2.a.cell (j := j) (by rw [stL_length]; exact hlt)
   have hcf := hI2.a.free j
   have hk := hI2.t.turns j hlt
   rw [stL_get _ j hlt, upQ_get] at hc
   rw [trT_eq j hlt] at hk
   have HT : Hid _ := rhM_turn f j
   have hm := rhM_lt j
   have hq := HF.out j
   have HS : Hid (∀ x : Int, x = ((rhL f j : Nat) : Int) → KI w (upQ f (rhL f) (j + 1)) (wr.setCell ⟨w.heap.size, j, none⟩ (.int .u64 x))) := by
    intro x hx
    exact hI2.set j x (by rw [hx]; exact upQ_set f (rhL f) j)
   change wr.cell? ⟨3, j, none⟩ = some (.int .i64 ((rhM j : Nat) : Int)) at hk
   generalize f j = q0 at hc HT hq
   generalize rhM j = q1 at hk HT hm
   have HI : Hid _ := hI2
   clear hI2
   go_wp2_with fail
   refine wpE_begin 9 (by kernel_rfl) ?_
   refine wpE_t (i := 0) (oi := ⟨some 7, .move (.tmp 3), 3, "keccak.go:51", #[], none⟩) (v := ?_) ?_ ?_
   rotate_left
   ·intro W hW; go_simp <;> with_reducible rfl
   try simp only [Act.put, putA, putB, putC]
   refine wpE_t (i := 1) (oi := ⟨some 8, .move (.tmp 3), 3, "keccak.go:51", #[], none⟩) (v := ?_) ?_ ?_
   rotate_left
   ·intro W hW; go_simp <;> with_reducible rfl
   try simp only [Act.put, putA, putB, putC]
   refine wpE_t (i := 2) (oi := ⟨some 9, .indexAddr 73 (.tmp 1) (.tmp 8), 0, "keccak.go:51", #[⟨1, .data⟩], none⟩) (v := ?_) ?_ ?_
   rotate_left
   ·intro W hW; go_simp <;> with_reducible rfl
   try simp only [Act.put, putA, putB, putC]
   refine wpE_t (i := 3) (oi := ⟨some 10, .load 27 (.tmp 9), 27, "keccak.go:51", #[⟨2, .data⟩], none⟩) (v := ?_) ?_ ?_
   rotate_left
   ·intro W hW; have hcW := cellU hc hW; go_simp <;> with_reducible rfl
   try simp only [Act.put, putA, putB, putC]
   refine wpE_t (i := 4) (oi := ⟨some 11, .move (.tmp 3), 3, "keccak.go:51", #[], none⟩) (v := ?_) ?_ ?_
   rotate_left
   ·intro W hW; go_simp <;> with_reducible rfl
   try simp only [Act.put, putA, putB, putC]
   refine wpE_t (i := 5) (oi := ⟨some 12, .indexAddr 132 (.global 3) (.tmp 11), 0, "keccak.go:51", #[⟨4, .data⟩], none⟩) (v := ?_) ?_ ?_
   rotate_left
   ·intro W hW; go_simp <;> with_reducible rfl
   try simp only [Act.put, putA, putB, putC]
   refine wpE_t (i := 6) (oi := ⟨some 13, .load 3 (.tmp 12), 3, "keccak.go:51", #[⟨5, .data⟩], none⟩) (v := ?_) ?_ ?_
   rotate_left
   ·intro W hW; have hcW := cellU hk hW; go_simp <;> with_reducible rfl
   try simp only [Act.put, putA, putB, putC]
   refine wpE_do (i := 7) (o := ⟨some 14, .call { callee := .value (.func 109), args := #[.tmp 10, .tmp 13], argTypes := #[27, 3] }, 27, "keccak.go:51", #[⟨3, .data⟩, ⟨6, .data⟩], none⟩) (by kernel_rfl) rfl (by rfl) fun K hK => ?_
   go_simp
   refine (rot_any q0 q1 _ _ rfl rfl hq hm _).mono ?_
   rintro e w' ⟨rfl, rfl⟩
   refine hK.out _ _ (Below.refl _ _) ?_
   clear hK K
   try simp only [Act.put, putA, putB, putC]
   refine wpE_t (i := 8) (oi := ⟨some 15, .indexAddr 73 (.tmp 1) (.tmp 7), 0, "keccak.go:51", #[⟨0, .data⟩, ⟨0, .phase⟩, ⟨1, .phase⟩, ⟨2, .phase⟩, ⟨3, .phase⟩, ⟨4, .phase⟩, ⟨5, .phase⟩, ⟨6, .phase⟩, ⟨7, .phase⟩], none⟩) (v := ?_) ?_ ?_
   rotate_left
   ·intro W hW; go_simp <;> with_reducible rfl
   try simp only [Act.put, putA, putB, putC]
   refine wpE_last (o := ⟨none, .store 27 (.tmp 15) (.tmp 14), 0, "keccak.go:51", #[⟨8, .data⟩, ⟨7, .data⟩, ⟨7, .chain⟩, ⟨0, .phase⟩, ⟨1, .phase⟩, ⟨2, .phase⟩, ⟨3, .phase⟩, ⟨4, .phase⟩, ⟨5, .phase⟩, ⟨6, .phase⟩, ⟨7, .phase⟩], none⟩) (by kernel_rfl) (by kernel_rfl) rfl (by rfl) fun K hK => ?_
   go_simp
   refine hK.out _ _ ?_
   clear hK K
   try simp only [Act.put, putA, putB, putC]

   rw [HT.out]
   have hI3 := (HS.out _ rfl).drew
   go_wp2
   go_roundw
   case rel => exact ⟨j + 1, by omega, by go_num, hI3⟩
   case measure => simp [intOf]; omega
  ·have hje : j = 25 := by omega
   subst hje
   have r1 := hI2.a
   rw [upQ_done] at r1
   have r2 := hI2.r
   go_wp2_with (first | refine wpList_load_row rfl 73 _ rfl rfl r1 _ Tryz.underlying73 rfl (arrInfo _) ?_ | (refine wpList_store_row rfl 73 _ _ rfl (stL (rhL f)) rfl rfl r2 (by simp [stL_length]) (arrInfo _) ?_; intro w2 r3 hw))
   refine bodyPost_row (p := 2) (ty := 73) rfl rfl rfl r3 Tryz.underlying73 rfl (arrInfo _) ?_
   exact ⟨rfl, hw.below _ _ (by omega) hI2.b⟩
def cS (f : Nat → Nat) : Nat → Nat → Nat
 | 0, _ => 0
 | j + 1, x => if j % 5 = x then cS f j x ^^^ f j else cS f j x
theorem cS_lt (f : Nat → Nat) (hf : ∀ i, f i < 18446744073709551616) : ∀ j x, cS f j x < 18446744073709551616
 | 0, _ => by simp [cS]
 | j + 1, x => by
  unfold cS
  split
  ·exact xor_lt64 (cS_lt f hf j x) (hf j)
  ·exact cS_lt f hf j x
theorem cS_done (f : Nat → Nat) (x : Nat) (hx : x < 5) : cS f 25 x = colN f x := by
 have h : x = 0 ∨ x = 1 ∨ x = 2 ∨ x = 3 ∨ x = 4 := by omega
 rcases h with rfl | rfl | rfl | rfl | rfl <;> simp [cS, colN]
def sL (f : Nat → Nat) (j : Nat) : List Int := (List.range 5).map fun x => ((cS f j x : Nat) : Int)
theorem sL_length (f : Nat → Nat) (j : Nat) : (sL f j).length = 5 := by simp [sL]
theorem sL_ne (f : Nat → Nat) (j : Nat) : sL f j ≠ [] := by
 intro h
 have := sL_length f j
 rw [h] at this
 simp at this
theorem sL_get (f : Nat → Nat) (j x : Nat) (hx : x < 5) : (sL f j).getD x 0 = ((cS f j x : Nat) : Int) := by simp [sL, hx]
theorem sL_set (f : Nat → Nat) (j : Nat) : (sL f j).set (j % 5) ((cS f j (j % 5) ^^^ f j : Nat) : Int) = sL f (j + 1) := by
 refine List.ext_getElem (by simp [sL]) fun i h1 h2 => ?_
 simp only [sL, List.getElem_set, List.getElem_map, List.getElem_range, cS]
 by_cases e : j % 5 = i
 ·subst e; simp
 ·simp [e]
theorem sL_zero (f : Nat → Nat) : #[Value.int .u64 0, .int .u64 0, .int .u64 0, .int .u64 0, .int .u64 0] = ((sL f 0).map (Value.int .u64)).toArray := rfl

def thR (f : Nat → Nat) (X Y k : Nat) : Nat := if k % 5 < X ∨ (k % 5 = X ∧ k / 5 < Y) then thL f k else f k
theorem thR_zero (f : Nat → Nat) : stL f = stL (thR f 0 0) := stL_congr fun i hi => by simp [thR]
theorem thR_next (f : Nat → Nat) (X : Nat) : stL (thR f X 5) = stL (thR f (X + 1) 0) := stL_congr fun i hi => by
 unfold thR
 have h1 : (i % 5 < X ∨ i % 5 = X ∧ i / 5 < 5) ↔ (i % 5 < X + 1 ∨ i % 5 = X + 1 ∧ i / 5 < 0) := by omega
 simp only [h1]
theorem thR_done (f : Nat → Nat) : stL (thR f 5 0) = stL (thL f) := stL_congr fun i hi => by
 unfold thR
 rw [if_pos (by omega)]
theorem thR_get (f : Nat → Nat) (X Y : Nat) (hX : X < 5) : thR f X Y (X + 5 * Y) = f (X + 5 * Y) := by
 unfold thR
 rw [if_neg (by omega)]
theorem thR_set (f : Nat → Nat) (X Y : Nat) (hX : X < 5) (hY : Y < 5) : (stL (thR f X Y)).set (X + 5 * Y) ((thL f (X + 5 * Y) : Nat) : Int) = stL (thR f X (Y + 1)) := by
 rw [stL_set]
 refine stL_congr fun i hi => ?_
 unfold thR
 by_cases e : i = X + 5 * Y
 ·subst e
  rw [if_pos rfl, if_pos (by omega)]
 ·rw [if_neg e]
  have h1 : (i % 5 < X ∨ i % 5 = X ∧ i / 5 < Y) ↔ (i % 5 < X ∨ i % 5 = X ∧ i / 5 < Y + 1) := by omega
  simp only [h1]
theorem th_add (f : Nat → Nat) (X Y : Nat) (hX : X < 5) : f (X + 5 * Y) ^^^ (colN f ((X + 4) % 5) ^^^ turnN (colN f ((X + 1) % 5)) 1) = thL f (X + 5 * Y) := by
 unfold thL
 rw [show (X + 5 * Y) % 5 = X by omega, Nat.xor_assoc]

set_option maxRecDepth 100000 in
set_option maxHeartbeats 2000000 in
theorem kTheta_any (A : Array Value) (f : Nat → Nat) (hf : ∀ i, f i < 18446744073709551616) (hA : A = ((stL f).map (Value.int .u64)).toArray) (w : World) (ht : Tabs w) :
  Calls Tryz.prog 104 #[.agg A] w fun e w' => e = .returned (arrV (thL f)) ∧ Below w.heap.size w w' := by
 have HA : Hid _ := hA
 have HF : Hid (∀ i, f i < 18446744073709551616) := hf
 clear hA hf
 go_enter Tryz.func104, Tryz.ntmps104
 go_wp2
 rw [HA.out]
 obtain ⟨W, hW, hI, hs⟩ := two_rows f w _ zeros25 ht
 rw [hW]
 clear hW ht
 have rs : RowAt .u64 129 (w.heap.size + 2) 5 (sL f 0) (W.alloc (.cells #[Value.int .u64 0, .int .u64 0, .int .u64 0, .int .u64 0, .int .u64 0] 129)) :=
  RowAt.fresh (sL f 0) (sL_zero f) hs.symm (sL_length f 0).symm (sL_ne f 0) (by rw [sL_length]; simp [maxLen])
 have hI1 := hI.alloc (.cells #[Value.int .u64 0, .int .u64 0, .int .u64 0, .int .u64 0, .int .u64 0] 129)
 generalize W.alloc (.cells #[Value.int .u64 0, .int .u64 0, .int .u64 0, .int .u64 0, .int .u64 0] 129) = W1 at rs hI1
 clear hI hs
 go_loopw [8] (fun i wr => ∃ j : Nat, j ≤ 25 ∧ i = .int .i64 j ∧ KI w f wr ∧ RowAt .u64 129 (w.heap.size + 2) 5 (sL f j) wr) (fun i _ => 25 - (intOf i).toNat)
 case atStart => exact ⟨0, by omega, rfl, hI1, rs⟩
 case round =>
  obtain ⟨j, hj, rfl, hI2, rs2⟩ := hrel
  clear hI1 rs
  by_cases hlt : j < 25
  ·have hd : decide ((j : Int) < 25) = true := decide_eq_true (by omega)
   have hjI : (j : Int) < 25 := by omega
   obtain ⟨m, hm⟩ : ∃ m : Nat, m = j % 5 := ⟨_, rfl⟩
   have bm : (m : Int) < 5 := by omega
   have t0 : (j : Int).tmod 5 = (m : Int) := by rw [hm]; exact Int.tmod_eq_emod_of_nonneg (by omega)
   have u0 : (j : Int) % 5 = (m : Int) := by omega
   have hc := hI2.a.cell (j := j) (by rw [stL_length]; exact hlt)
   rw [stL_get _ j hlt] at hc
   have cs := rs2.cell (j := m) (by rw [sL_length]; omega)
   rw [sL_get _ _ _ (by omega)] at cs
   have fs := rs2.free m
   have HX : Hid _ := xorI (cS f j m) (f j) (cS_lt f HF.out _ _) (HF.out j)
   have HS : Hid (∀ x : Int, x = ((cS f j m ^^^ f j : Nat) : Int) → RowAt .u64 129 (w.heap.size + 2) 5 (sL f (j + 1)) (wr.setCell ⟨w.heap.size + 2, m, none⟩ (.int .u64 x)) ∧ KI w f (wr.setCell ⟨w.heap.size + 2, m, none⟩ (.int .u64 x))) := by
    intro x hx
    refine ⟨?_, hI2.other (Wrote.set _ m wr _) (Nat.le_refl _)⟩
    rw [← sL_set, ← hm, ← hx]
    exact rs2.set m x
   generalize f j = q0 at hc HX HS
   generalize cS f j m = q1 at cs HX HS
   clear hI2 rs2 hm
   go_wp2_with fail
   refine wpE_begin 9 (by kernel_rfl) ?_
   refine wpE_t (i := 0) (oi := ⟨some 11, .move (.tmp 4), 3, "keccak.go:37", #[], none⟩) (v := ?_) ?_ ?_
   rotate_left
   ·intro W hW; go_simp <;> with_reducible rfl
   try simp only [Act.put, putA, putB, putC]
   refine wpE_t (i := 1) (oi := ⟨some 12, .binOp .rem 3 (.tmp 11) (.const (.int .i64 5)) 3, 3, "keccak.go:37", #[⟨0, .data⟩], none⟩) (v := ?_) ?_ ?_
   rotate_left
   ·intro W hW; go_simp <;> with_reducible rfl
   try simp only [Act.put, putA, putB, putC]
   refine wpE_t (i := 2) (oi := ⟨some 13, .indexAddr 129 (.tmp 3) (.tmp 12), 0, "keccak.go:37", #[⟨1, .data⟩], none⟩) (v := ?_) ?_ ?_
   rotate_left
   ·intro W hW; go_simp <;> with_reducible rfl
   try simp only [Act.put, putA, putB, putC]
   refine wpE_t (i := 3) (oi := ⟨some 14, .load 27 (.tmp 13), 27, "keccak.go:37", #[⟨2, .data⟩], none⟩) (v := ?_) ?_ ?_
   rotate_left
   ·intro W hW; have hcW := cellU cs hW; go_simp <;> with_reducible rfl
   try simp only [Act.put, putA, putB, putC]
   refine wpE_t (i := 4) (oi := ⟨some 15, .move (.tmp 4), 3, "keccak.go:37", #[], none⟩) (v := ?_) ?_ ?_
   rotate_left
   ·intro W hW; go_simp <;> with_reducible rfl
   try simp only [Act.put, putA, putB, putC]
   refine wpE_t (i := 5) (oi := ⟨some 16, .indexAddr 73 (.tmp 1) (.tmp 15), 0, "keccak.go:37", #[⟨4, .data⟩], none⟩) (v := ?_) ?_ ?_
   rotate_left
   ·intro W hW; go_simp <;> with_reducible rfl
   try simp only [Act.put, putA, putB, putC]
   refine wpE_t (i := 6) (oi := ⟨some 17, .load 27 (.tmp 16), 27, "keccak.go:37", #[⟨5, .data⟩], none⟩) (v := ?_) ?_ ?_
   rotate_left
   ·intro W hW; have hcW := cellU hc hW; go_simp <;> with_reducible rfl
   try simp only [Act.put, putA, putB, putC]
   refine wpE_t (i := 7) (oi := ⟨some 18, .binOp .xor 27 (.tmp 14) (.tmp 17) 27, 27, "keccak.go:37", #[⟨3, .data⟩, ⟨6, .data⟩], none⟩) (v := ?_) ?_ ?_
   rotate_left
   ·intro W hW; go_simp <;> with_reducible rfl
   try simp only [Act.put, putA, putB, putC]
   refine wpE_t (i := 8) (oi := ⟨some 19, .indexAddr 129 (.tmp 3) (.tmp 12), 0, "keccak.go:37", #[⟨1, .data⟩, ⟨0, .phase⟩, ⟨1, .phase⟩, ⟨2, .phase⟩, ⟨3, .phase⟩, ⟨4, .phase⟩, ⟨5, .phase⟩, ⟨6, .phase⟩, ⟨7, .phase⟩], none⟩) (v := ?_) ?_ ?_
   rotate_left
   ·intro W hW; go_simp <;> with_reducible rfl
   try simp only [Act.put, putA, putB, putC]
   refine wpE_last (o := ⟨none, .store 27 (.tmp 19) (.tmp 18), 0, "keccak.go:37", #[⟨8, .data⟩, ⟨7, .data⟩, ⟨0, .phase⟩, ⟨1, .phase⟩, ⟨2, .phase⟩, ⟨3, .phase⟩, ⟨4, .phase⟩, ⟨5, .phase⟩, ⟨6, .phase⟩, ⟨7, .phase⟩], none⟩) (by kernel_rfl) (by kernel_rfl) rfl (by rfl) fun K hK => ?_
   go_simp
   refine hK.out _ _ ?_
   clear hK K
   try simp only [Act.put, putA, putB, putC]

   obtain ⟨rs3, hI3⟩ := HS.out _ HX.out
   have hI4 := hI3.drew
   have rs4 := rs3.drew
   go_wp2
   go_roundw
   case rel => exact ⟨j + 1, by omega, by go_num, hI4, rs4⟩
   case measure => simp [intOf]; omega
  ·have hje : j = 25 := by omega
   rw [hje] at rs2
   have hd0 : decide ((j : Int) < 25) = false := decide_eq_false (by omega)
   have hj0 : (25 : Int) ≤ j := by omega
   have hI3 : KI w (thR f 0 0) wr := ⟨thR_zero f ▸ hI2.a, hI2.r, hI2.b, hI2.t, hI2.two⟩
   clear hI2 hlt hj hje
   go_wp2
   go_loopw [21] (fun i wr => ∃ X : Nat, X ≤ 5 ∧ i = .int .i64 X ∧ KI w (thR f X 0) wr ∧ RowAt .u64 129 (w.heap.size + 2) 5 (sL f 25) wr) (fun i _ => 5 - (intOf i).toNat)
   case atStart => exact ⟨0, by omega, rfl, hI3, rs2⟩
   case round =>
    obtain ⟨X, hX, rfl, hI4, rs4⟩ := hrel
    clear hI3 rs2
    by_cases hlt : X < 5
    ·have hd : decide ((X : Int) < 5) = true := decide_eq_true (by omega)
     have hXI : (X : Int) < 5 := by omega
     obtain ⟨m4, hm4⟩ : ∃ m : Nat, m = (X + 4) % 5 := ⟨_, rfl⟩
     obtain ⟨m1, hm1⟩ : ∃ m : Nat, m = (X + 1) % 5 := ⟨_, rfl⟩
     have b4 : (m4 : Int) < 5 := by omega
     have b1 : (m1 : Int) < 5 := by omega
     have v4 : IntKind.i64.wrap ((X : Int) + 4) = (X : Int) + 4 := IntWalk.i64_in _ (by omega)
     have v1 : IntKind.i64.wrap ((X : Int) + 1) = (X : Int) + 1 := IntWalk.i64_in _ (by omega)
     have t4 : ((X : Int) + 4).tmod 5 = (m4 : Int) := by rw [Int.tmod_eq_emod_of_nonneg (by omega)]; omega
     have t1 : ((X : Int) + 1).tmod 5 = (m1 : Int) := by rw [Int.tmod_eq_emod_of_nonneg (by omega)]; omega
     have u4 : ((X : Int) + 4) % 5 = (m4 : Int) := by omega
     have u1 : ((X : Int) + 1) % 5 = (m1 : Int) := by omega
     have c4 := rs4.cell (j := m4) (by rw [sL_length]; omega)
     have c1 := rs4.cell (j := m1) (by rw [sL_length]; omega)
     rw [sL_get _ _ _ (by omega), cS_done _ _ (by omega)] at c4 c1
     have HTA : Hid (∀ Y, f (X + 5 * Y) ^^^ (colN f m4 ^^^ turnN (colN f m1) 1) = thL f (X + 5 * Y)) := by
      intro Y
      rw [hm4, hm1]
      exact th_add f X Y hlt
     have h4 := colN_lt f HF.out m4
     have h1 := colN_lt f HF.out m1
     have HX : Hid _ := xorI (colN f m4) (turnN (colN f m1) 1) h4 (turnN_lt _ _ h1 (by decide))
     have HL : Hid (colN f m4 ^^^ turnN (colN f m1) 1 < 18446744073709551616) := xor_lt64 h4 (turnN_lt _ _ h1 (by decide))
     generalize colN f m4 = q4 at c4 HX HTA HL h4
     generalize colN f m1 = q1 at c1 HX HTA HL h1
     have HI : Hid _ := hI4
     have HR : Hid _ := rs4
     clear hI4 rs4 hm4 hm1
     go_wp2_with fail
     refine wpG_begin (by kernel_rfl) ?_
     refine wpG_t (i := 0) (oi := ⟨some 24, .move (.tmp 5), 3, "keccak.go:40", #[], none⟩) (v := ?_) ?_ ?_
     rotate_left
     ·intro W hW; go_simp <;> with_reducible rfl
     try simp only [Act.put, putA, putB, putC]
     refine wpG_t (i := 1) (oi := ⟨some 25, .binOp .add 3 (.tmp 24) (.const (.int .i64 4)) 3, 3, "keccak.go:40", #[⟨0, .data⟩], none⟩) (v := ?_) ?_ ?_
     rotate_left
     ·intro W hW; go_simp <;> with_reducible rfl
     try simp only [Act.put, putA, putB, putC]
     refine wpG_t (i := 2) (oi := ⟨some 26, .binOp .rem 3 (.tmp 25) (.const (.int .i64 5)) 3, 3, "keccak.go:40", #[⟨1, .data⟩], none⟩) (v := ?_) ?_ ?_
     rotate_left
     ·intro W hW; go_simp <;> with_reducible rfl
     try simp only [Act.put, putA, putB, putC]
     refine wpG_t (i := 3) (oi := ⟨some 27, .indexAddr 129 (.tmp 3) (.tmp 26), 0, "keccak.go:40", #[⟨2, .data⟩], none⟩) (v := ?_) ?_ ?_
     rotate_left
     ·intro W hW; go_simp <;> with_reducible rfl
     try simp only [Act.put, putA, putB, putC]
     refine wpG_t (i := 4) (oi := ⟨some 28, .load 27 (.tmp 27), 27, "keccak.go:40", #[⟨3, .data⟩], none⟩) (v := ?_) ?_ ?_
     rotate_left
     ·intro W hW; have hcW := cellU c4 hW; go_simp <;> with_reducible rfl
     try simp only [Act.put, putA, putB, putC]
     refine wpG_t (i := 5) (oi := ⟨some 29, .move (.tmp 5), 3, "keccak.go:40", #[], none⟩) (v := ?_) ?_ ?_
     rotate_left
     ·intro W hW; go_simp <;> with_reducible rfl
     try simp only [Act.put, putA, putB, putC]
     refine wpG_t (i := 6) (oi := ⟨some 30, .binOp .add 3 (.tmp 29) (.const (.int .i64 1)) 3, 3, "keccak.go:40", #[⟨5, .data⟩], none⟩) (v := ?_) ?_ ?_
     rotate_left
     ·intro W hW; go_simp <;> with_reducible rfl
     try simp only [Act.put, putA, putB, putC]
     refine wpG_t (i := 7) (oi := ⟨some 31, .binOp .rem 3 (.tmp 30) (.const (.int .i64 5)) 3, 3, "keccak.go:40", #[⟨6, .data⟩], none⟩) (v := ?_) ?_ ?_
     rotate_left
     ·intro W hW; go_simp <;> with_reducible rfl
     try simp only [Act.put, putA, putB, putC]
     refine wpG_t (i := 8) (oi := ⟨some 32, .indexAddr 129 (.tmp 3) (.tmp 31), 0, "keccak.go:40", #[⟨7, .data⟩], none⟩) (v := ?_) ?_ ?_
     rotate_left
     ·intro W hW; go_simp <;> with_reducible rfl
     try simp only [Act.put, putA, putB, putC]
     refine wpG_t (i := 9) (oi := ⟨some 33, .load 27 (.tmp 32), 27, "keccak.go:40", #[⟨8, .data⟩], none⟩) (v := ?_) ?_ ?_
     rotate_left
     ·intro W hW; have hcW := cellU c1 hW; go_simp <;> with_reducible rfl
     try simp only [Act.put, putA, putB, putC]
     refine wpG_do (i := 10) (o := ⟨some 34, .call { callee := .value (.func 109), args := #[.tmp 33, .const (.int .i64 1)], argTypes := #[27, 3] }, 27, "keccak.go:40", #[⟨9, .data⟩], none⟩) (by kernel_rfl) rfl (by rfl) fun K hK => ?_
     go_simp
     refine (rot_any q1 1 _ _ rfl rfl h1 (by decide) _).mono ?_
     rintro e w' ⟨rfl, rfl⟩
     refine hK.out _ _ (Below.refl _ _) ?_
     clear hK K
     try simp only [Act.put, putA, putB, putC]
     refine wpG_t (i := 11) (oi := ⟨some 35, .binOp .xor 27 (.tmp 28) (.tmp 34) 27, 27, "keccak.go:40", #[⟨4, .data⟩, ⟨10, .data⟩], none⟩) (v := ?_) ?_ ?_
     rotate_left
     ·intro W hW; go_simp <;> with_reducible rfl
     try simp only [Act.put, putA, putB, putC]
     refine wpG_t (i := 12) (oi := ⟨some 6, .assign (.tmp 35), 27, "keccak.go:40", #[⟨11, .data⟩, ⟨10, .chain⟩, ⟨0, .phase⟩, ⟨1, .phase⟩, ⟨2, .phase⟩, ⟨3, .phase⟩, ⟨4, .phase⟩, ⟨5, .phase⟩, ⟨6, .phase⟩, ⟨7, .phase⟩, ⟨8, .phase⟩, ⟨9, .phase⟩, ⟨10, .phase⟩, ⟨11, .phase⟩], none⟩) (v := ?_) ?_ ?_
     rotate_left
     ·intro W hW; go_simp <;> with_reducible rfl
     try simp only [Act.put, putA, putB, putC]
     refine wpG_done (by kernel_rfl) ?_

     rw [HX.out]
     have hI5 := HI.out.drew
     have rs5 := HR.out.drew
     generalize q4 ^^^ turnN q1 1 = q at HTA HL
     clear HX h4 h1 c4 c1 HI HR v4 v1 t4 t1 u4 u1 b4 b1
     generalize wr.drew = wr1 at hI5 rs5
     clear wr
     go_wp2
     go_loopw [36] (fun i wr => ∃ Y : Nat, Y ≤ 5 ∧ i = .int .i64 Y ∧ KI w (thR f X Y) wr ∧ RowAt .u64 129 (w.heap.size + 2) 5 (sL f 25) wr) (fun i _ => 5 - (intOf i).toNat)
     case atStart => exact ⟨0, by omega, rfl, hI5, rs5⟩
     case round =>
      obtain ⟨Y, hY, rfl, hI6, rs6⟩ := hrel
      clear hI5 rs5
      by_cases hYlt : Y < 5
      ·have hd2 : decide ((Y : Int) < 5) = true := decide_eq_true (by omega)
       have hYI : (Y : Int) < 5 := by omega
       have hc := hI6.a.cell (j := X + 5 * Y) (by rw [stL_length]; omega)
       have hcf := hI6.a.free (X + 5 * Y)
       rw [stL_get _ _ (by omega), thR_get f X Y hlt] at hc
       have HT := HTA.out Y
       have HX : Hid _ := xorI (f (X + 5 * Y)) q (HF.out _) HL.out
       rw [HT] at HX
       have HS : Hid (∀ x : Int, x = ((thL f (X + 5 * Y) : Nat) : Int) → KI w (thR f X (Y + 1)) (wr.setCell ⟨w.heap.size, X + 5 * Y, none⟩ (.int .u64 x)) ∧ RowAt .u64 129 (w.heap.size + 2) 5 (sL f 25) (wr.setCell ⟨w.heap.size, X + 5 * Y, none⟩ (.int .u64 x))) := by
        intro x hx
        refine ⟨hI6.set _ x (by rw [hx]; exact thR_set f X Y hlt hYlt), rs6.wrote (Wrote.set _ _ wr _) (by omega)⟩
       generalize f (X + 5 * Y) = q0 at hc HX
       have w5 : IntKind.i64.wrap (5 * (Y : Int)) = 5 * (Y : Int) := IntWalk.i64_in _ (by omega)
       have wX : IntKind.i64.wrap ((X : Int) + 5 * (Y : Int)) = (X : Int) + 5 * (Y : Int) := IntWalk.i64_in _ (by omega)
       have nX : ((X : Int) + 5 * (Y : Int)).toNat = X + 5 * Y := by omega
       have pX : 0 ≤ (X : Int) + 5 * (Y : Int) := by omega
       have lX : (X : Int) + 5 * (Y : Int) < 25 := by omega
       clear hI6 rs6 HT
       go_wp2
       obtain ⟨hI7, rs7⟩ := HS.out _ HX.out
       go_roundw
       case rel => exact ⟨Y + 1, by omega, by go_num, hI7, rs7⟩
       case measure => simp [intOf]; omega
      ·have hYe : Y = 5 := by omega
       subst hYe
       have hI7 : KI w (thR f (X + 1) 0) wr := ⟨thR_next f X ▸ hI6.a, hI6.r, hI6.b, hI6.t, hI6.two⟩
       clear hI6
       go_wp2
       go_roundw
       case rel => exact ⟨X + 1, by omega, by go_num, hI7, rs6⟩
       case measure => simp [intOf]; omega
    ·have hXe : X = 5 := by omega
     subst hXe
     have r1 := hI4.a
     rw [thR_done] at r1
     have r2 := hI4.r
     go_wp2_with (first | refine wpList_load_row rfl 73 _ rfl rfl r1 _ Tryz.underlying73 rfl (arrInfo _) ?_ | (refine wpList_store_row rfl 73 _ _ rfl (stL (thL f)) rfl rfl r2 (by simp [stL_length]) (arrInfo _) ?_; intro w2 r3 hw))
     refine bodyPost_row (p := 2) (ty := 73) rfl rfl rfl r3 Tryz.underlying73 rfl (arrInfo _) ?_
     exact ⟨rfl, hw.below _ _ (by omega) hI4.b⟩
set_option maxRecDepth 100000 in
set_option maxHeartbeats 2000000 in
theorem kPi_any (A : Array Value) (f : Nat → Nat) (hf : ∀ i, f i < 18446744073709551616) (hA : A = ((stL f).map (Value.int .u64)).toArray) (w : World) (ht : Tabs w) :
  Calls Tryz.prog 102 #[.agg A] w fun e w' => e = .returned (arrV (piF f)) ∧ Below w.heap.size w w' := by
 have HA : Hid _ := hA
 have HF : Hid (∀ i, f i < 18446744073709551616) := hf
 clear hA hf
 go_enter Tryz.func102, Tryz.ntmps102
 go_wp2
 rw [HA.out]
 obtain ⟨W, hW, hI, hs⟩ := two_rows f w _ zeros25 ht
 rw [hW]
 clear hW ht
 have ro : RowAt .u64 73 (w.heap.size + 2) 25 (stL fun _ => 0) (W.alloc (.cells #[Value.int .u64 0, .int .u64 0, .int .u64 0, .int .u64 0, .int .u64 0, .int .u64 0, .int .u64 0, .int .u64 0, .int .u64 0, .int .u64 0, .int .u64 0, .int .u64 0, .int .u64 0, .int .u64 0, .int .u64 0, .int .u64 0, .int .u64 0, .int .u64 0, .int .u64 0, .int .u64 0, .int .u64 0, .int .u64 0, .int .u64 0, .int .u64 0, .int .u64 0] 73)) :=
  RowAt.fresh _ zeros25 hs.symm (stL_length _).symm (stL_ne _) (by rw [stL_length]; simp [maxLen])
 have hI1 := hI.alloc (.cells #[Value.int .u64 0, .int .u64 0, .int .u64 0, .int .u64 0, .int .u64 0, .int .u64 0, .int .u64 0, .int .u64 0, .int .u64 0, .int .u64 0, .int .u64 0, .int .u64 0, .int .u64 0, .int .u64 0, .int .u64 0, .int .u64 0, .int .u64 0, .int .u64 0, .int .u64 0, .int .u64 0, .int .u64 0, .int .u64 0, .int .u64 0, .int .u64 0, .int .u64 0] 73)
 generalize W.alloc (.cells #[Value.int .u64 0, .int .u64 0, .int .u64 0, .int .u64 0, .int .u64 0, .int .u64 0, .int .u64 0, .int .u64 0, .int .u64 0, .int .u64 0, .int .u64 0, .int .u64 0, .int .u64 0, .int .u64 0, .int .u64 0, .int .u64 0, .int .u64 0, .int .u64 0, .int .u64 0, .int .u64 0, .int .u64 0, .int .u64 0, .int .u64 0, .int .u64 0, .int .u64 0] 73) = W1 at ro hI1
 rw [upQ_zero (fun _ => 0) (piF f)] at ro
 clear hI hs
 go_loopw [6] (fun i wr => ∃ Y : Nat, Y ≤ 5 ∧ i = .int .i64 Y ∧ KI w f wr ∧ RowAt .u64 73 (w.heap.size + 2) 25 (stL (upQ (fun _ => 0) (piF f) (5 * Y))) wr) (fun i _ => 5 - (intOf i).toNat)
 case atStart => exact ⟨0, by omega, rfl, hI1, ro⟩
 case round =>
  obtain ⟨Y, hY, rfl, hI2, ro2⟩ := hrel
  clear hI1 ro
  by_cases hlt : Y < 5
  ·have hd : decide ((Y : Int) < 5) = true := decide_eq_true (by omega)
   have hYI : (Y : Int) < 5 := by omega
   go_wp2
   go_loopw [9] (fun i wr => ∃ X : Nat, X ≤ 5 ∧ i = .int .i64 X ∧ KI w f wr ∧ RowAt .u64 73 (w.heap.size + 2) 25 (stL (upQ (fun _ => 0) (piF f) (X + 5 * Y))) wr) (fun i _ => 5 - (intOf i).toNat)
   case atStart => exact ⟨0, by omega, rfl, hI2, by rw [Nat.zero_add]; exact ro2⟩
   case round =>
    obtain ⟨X, hX, rfl, hI3, ro3⟩ := hrel
    clear hI2 ro2
    by_cases hXlt : X < 5
    ·have hd2 : decide ((X : Int) < 5) = true := decide_eq_true (by omega)
     have hXI : (X : Int) < 5 := by omega
     obtain ⟨m, hm⟩ : ∃ m : Nat, m = (X + 3 * Y) % 5 := ⟨_, rfl⟩
     have bm : (m : Int) < 5 := by omega
     have hc := hI3.a.cell (j := m + 5 * X) (by rw [stL_length]; omega)
     rw [stL_get _ _ (by omega)] at hc
     have ho := ro3.cell (j := X + 5 * Y) (by rw [stL_length]; omega)
     have hof := ro3.free (X + 5 * Y)
     have HS : Hid (∀ x : Int, x = ((f (m + 5 * X) : Nat) : Int) → RowAt .u64 73 (w.heap.size + 2) 25 (stL (upQ (fun _ => 0) (piF f) (X + 1 + 5 * Y))) (wr.setCell ⟨w.heap.size + 2, X + 5 * Y, none⟩ (.int .u64 x)) ∧ KI w f (wr.setCell ⟨w.heap.size + 2, X + 5 * Y, none⟩ (.int .u64 x))) := by
      intro x hx
      refine ⟨?_, hI3.other (Wrote.set _ _ wr _) (Nat.le_refl _)⟩
      have e : f (m + 5 * X) = piF f (X + 5 * Y) := by
       unfold piF
       rw [show (X + 5 * Y) % 5 = X by omega, show (X + 5 * Y) / 5 = Y by omega, hm]
      rw [show X + 1 + 5 * Y = (X + 5 * Y) + 1 by omega, ← upQ_set, ← e, ← hx]
      exact ro3.set _ x
     generalize f (m + 5 * X) = q0 at hc HS
     generalize (stL (upQ (fun _ => 0) (piF f) (X + 5 * Y))).getD (X + 5 * Y) 0 = q1 at ho
     have w5 : IntKind.i64.wrap (5 * (Y : Int)) = 5 * (Y : Int) := IntWalk.i64_in _ (by omega)
     have wX : IntKind.i64.wrap ((X : Int) + 5 * (Y : Int)) = (X : Int) + 5 * (Y : Int) := IntWalk.i64_in _ (by omega)
     have nX : ((X : Int) + 5 * (Y : Int)).toNat = X + 5 * Y := by omega
     have pX : 0 ≤ (X : Int) + 5 * (Y : Int) := by omega
     have lX : (X : Int) + 5 * (Y : Int) < 25 := by omega
     have w3 : IntKind.i64.wrap (3 * (Y : Int)) = 3 * (Y : Int) := IntWalk.i64_in _ (by omega)
     have wS : IntKind.i64.wrap ((X : Int) + 3 * (Y : Int)) = (X : Int) + 3 * (Y : Int) := IntWalk.i64_in _ (by omega)
     have tS : ((X : Int) + 3 * (Y : Int)).tmod 5 = (m : Int) := by rw [Int.tmod_eq_emod_of_nonneg (by omega)]; omega
     have uS : ((X : Int) + 3 * (Y : Int)) % 5 = (m : Int) := by omega
     have w5X : IntKind.i64.wrap (5 * (X : Int)) = 5 * (X : Int) := IntWalk.i64_in _ (by omega)
     have wM : IntKind.i64.wrap ((m : Int) + 5 * (X : Int)) = (m : Int) + 5 * (X : Int) := IntWalk.i64_in _ (by omega)
     have nM : ((m : Int) + 5 * (X : Int)).toNat = m + 5 * X := by omega
     have pM : 0 ≤ (m : Int) + 5 * (X : Int) := by omega
     have lM : (m : Int) + 5 * (X : Int) < 25 := by omega
     clear hI3 ro3 hm
     go_wp2
     obtain ⟨ro4, hI4⟩ := HS.out _ rfl
     go_roundw
     case rel => exact ⟨X + 1, by omega, by go_num, hI4, ro4⟩
     case measure => simp [intOf]; omega
    ·have hXe : X = 5 := by omega
     subst hXe
     rw [show 5 + 5 * Y = 5 * (Y + 1) by omega] at ro3
     go_wp2
     go_roundw
     case rel => exact ⟨Y + 1, by omega, by go_num, hI3, ro3⟩
     case measure => simp [intOf]; omega
  ·have hYe : Y = 5 := by omega
   subst hYe
   have r1 := ro2
   rw [upQ_done] at r1
   have r2 := hI2.r
   go_wp2_with (first | refine wpList_load_row rfl 73 _ rfl rfl r1 _ Tryz.underlying73 rfl (arrInfo _) ?_ | (refine wpList_store_row rfl 73 _ _ rfl (stL (piF f)) rfl rfl r2 (by simp [stL_length]) (arrInfo _) ?_; intro w2 r3 hw))
   refine bodyPost_row (p := 2) (ty := 73) rfl rfl rfl r3 Tryz.underlying73 rfl (arrInfo _) ?_
   exact ⟨rfl, hw.below _ _ (by omega) hI2.b⟩

theorem chi_val (f : Nat → Nat) (hf : ∀ i, f i < 18446744073709551616) (X Y : Nat) (hX : X < 5) (m1 m2 : Nat) (h1 : m1 = (X + 1) % 5) (h2 : m2 = (X + 2) % 5) :
  bits .xor .u64 ((f (5 * Y + X) : Nat) : Int) (bits .and .u64 (bits .xor .u64 (if IntKind.u64.signed = true then -1 else IntKind.u64.max) ((f (5 * Y + m1) : Nat) : Int)) ((f (5 * Y + m2) : Nat) : Int)) = ((chL f (5 * Y + X) : Nat) : Int) := by
 have e1 : 5 * Y + X - (5 * Y + X) % 5 + ((5 * Y + X) % 5 + 1) % 5 = 5 * Y + m1 := by omega
 have e2 : 5 * Y + X - (5 * Y + X) % 5 + ((5 * Y + X) % 5 + 2) % 5 = 5 * Y + m2 := by omega
 unfold chL
 rw [e1, e2, sub_and]
 have b1 := hf (5 * Y + m1)
 have b2 := hf (5 * Y + m2)
 have b0 := hf (5 * Y + X)
 generalize f (5 * Y + m1) = p at b1
 generalize f (5 * Y + m2) = q at b2
 generalize f (5 * Y + X) = r at b0
 have en : bits .xor .u64 (if IntKind.u64.signed = true then -1 else IntKind.u64.max) (p : Int) = ((18446744073709551615 ^^^ p : Nat) : Int) := xorI 18446744073709551615 p (by decide) b1
 rw [en, andI _ _ (xor_lt64 (by decide) b1) b2]
 have ea : (18446744073709551615 ^^^ p) &&& q = q ^^^ (q &&& p) := by
  apply Nat.eq_of_testBit_eq
  intro i
  rw [Nat.testBit_and, Nat.testBit_xor, Nat.testBit_xor, Nat.testBit_and, show (18446744073709551615 : Nat) = 2 ^ 64 - 1 from rfl, Nat.testBit_two_pow_sub_one]
  by_cases hi : i < 64
  ·simp only [hi, decide_true]
   cases p.testBit i <;> cases q.testBit i <;> rfl
  ·have hq : q.testBit i = false := Nat.testBit_lt_two_pow (Nat.lt_of_lt_of_le b2 (Nat.pow_le_pow_right (show 0 < 2 by decide) (by omega : 64 ≤ i)))
   rw [hq]
   simp
 rw [ea, xorI _ _ b0 (by
  have h : q &&& p ≤ q := Nat.and_le_left
  exact xor_lt64 b2 (by omega))]

set_option maxRecDepth 100000 in
set_option maxHeartbeats 2000000 in
theorem kChi_any (A : Array Value) (f : Nat → Nat) (hf : ∀ i, f i < 18446744073709551616) (hA : A = ((stL f).map (Value.int .u64)).toArray) (w : World) (ht : Tabs w) :
  Calls Tryz.prog 101 #[.agg A] w fun e w' => e = .returned (arrV (chL f)) ∧ Below w.heap.size w w' := by
 have HA : Hid _ := hA
 have HF : Hid (∀ i, f i < 18446744073709551616) := hf
 clear hA hf
 go_enter Tryz.func101, Tryz.ntmps101
 go_wp2
 rw [HA.out]
 obtain ⟨W, hW, hI, hs⟩ := two_rows f w _ zeros25 ht
 rw [hW]
 clear hW ht
 have ro : RowAt .u64 73 (w.heap.size + 2) 25 (stL fun _ => 0) (W.alloc (.cells #[Value.int .u64 0, .int .u64 0, .int .u64 0, .int .u64 0, .int .u64 0, .int .u64 0, .int .u64 0, .int .u64 0, .int .u64 0, .int .u64 0, .int .u64 0, .int .u64 0, .int .u64 0, .int .u64 0, .int .u64 0, .int .u64 0, .int .u64 0, .int .u64 0, .int .u64 0, .int .u64 0, .int .u64 0, .int .u64 0, .int .u64 0, .int .u64 0, .int .u64 0] 73)) :=
  RowAt.fresh _ zeros25 hs.symm (stL_length _).symm (stL_ne _) (by rw [stL_length]; simp [maxLen])
 have hI1 := hI.alloc (.cells #[Value.int .u64 0, .int .u64 0, .int .u64 0, .int .u64 0, .int .u64 0, .int .u64 0, .int .u64 0, .int .u64 0, .int .u64 0, .int .u64 0, .int .u64 0, .int .u64 0, .int .u64 0, .int .u64 0, .int .u64 0, .int .u64 0, .int .u64 0, .int .u64 0, .int .u64 0, .int .u64 0, .int .u64 0, .int .u64 0, .int .u64 0, .int .u64 0, .int .u64 0] 73)
 generalize W.alloc (.cells #[Value.int .u64 0, .int .u64 0, .int .u64 0, .int .u64 0, .int .u64 0, .int .u64 0, .int .u64 0, .int .u64 0, .int .u64 0, .int .u64 0, .int .u64 0, .int .u64 0, .int .u64 0, .int .u64 0, .int .u64 0, .int .u64 0, .int .u64 0, .int .u64 0, .int .u64 0, .int .u64 0, .int .u64 0, .int .u64 0, .int .u64 0, .int .u64 0, .int .u64 0] 73) = W1 at ro hI1
 rw [upQ_zero (fun _ => 0) (chL f)] at ro
 clear hI hs
 go_loopw [7] (fun i wr => ∃ Y : Nat, Y ≤ 5 ∧ i = .int .i64 Y ∧ KI w f wr ∧ RowAt .u64 73 (w.heap.size + 2) 25 (stL (upQ (fun _ => 0) (chL f) (5 * Y))) wr) (fun i _ => 5 - (intOf i).toNat)
 case atStart => exact ⟨0, by omega, rfl, hI1, ro⟩
 case round =>
  obtain ⟨Y, hY, rfl, hI2, ro2⟩ := hrel
  clear hI1 ro
  by_cases hlt : Y < 5
  ·have hd : decide ((Y : Int) < 5) = true := decide_eq_true (by omega)
   have hYI : (Y : Int) < 5 := by omega
   have w5 : IntKind.i64.wrap (5 * (Y : Int)) = 5 * (Y : Int) := IntWalk.i64_in _ (by omega)
   go_wp2
   go_loopw [12] (fun i wr => ∃ X : Nat, X ≤ 5 ∧ i = .int .i64 X ∧ KI w f wr ∧ RowAt .u64 73 (w.heap.size + 2) 25 (stL (upQ (fun _ => 0) (chL f) (5 * Y + X))) wr) (fun i _ => 5 - (intOf i).toNat)
   case atStart => exact ⟨0, by omega, rfl, hI2, ro2⟩
   case round =>
    obtain ⟨X, hX, rfl, hI3, ro3⟩ := hrel
    clear hI2 ro2
    by_cases hXlt : X < 5
    ·have hd2 : decide ((X : Int) < 5) = true := decide_eq_true (by omega)
     have hXI : (X : Int) < 5 := by omega
     obtain ⟨m1, hm1⟩ : ∃ m : Nat, m = (X + 1) % 5 := ⟨_, rfl⟩
     obtain ⟨m2, hm2⟩ : ∃ m : Nat, m = (X + 2) % 5 := ⟨_, rfl⟩
     have b1 : (m1 : Int) < 5 := by omega
     have b2 : (m2 : Int) < 5 := by omega
     have hc := hI3.a.cell (j := 5 * Y + X) (by rw [stL_length]; omega)
     have hc1 := hI3.a.cell (j := 5 * Y + m1) (by rw [stL_length]; omega)
     have hc2 := hI3.a.cell (j := 5 * Y + m2) (by rw [stL_length]; omega)
     rw [stL_get _ _ (by omega)] at hc hc1 hc2
     have ho := ro3.cell (j := 5 * Y + X) (by rw [stL_length]; omega)
     have hof := ro3.free (5 * Y + X)
     have HX : Hid _ := chi_val f HF.out X Y hXlt m1 m2 hm1 hm2
     have HS : Hid (∀ x : Int, x = ((chL f (5 * Y + X) : Nat) : Int) → RowAt .u64 73 (w.heap.size + 2) 25 (stL (upQ (fun _ => 0) (chL f) (5 * Y + (X + 1)))) (wr.setCell ⟨w.heap.size + 2, 5 * Y + X, none⟩ (.int .u64 x)) ∧ KI w f (wr.setCell ⟨w.heap.size + 2, 5 * Y + X, none⟩ (.int .u64 x))) := by
      intro x hx
      refine ⟨?_, hI3.other (Wrote.set _ _ wr _) (Nat.le_refl _)⟩
      rw [show 5 * Y + (X + 1) = (5 * Y + X) + 1 by omega, ← upQ_set, ← hx]
      exact ro3.set _ x
     generalize f (5 * Y + X) = q0 at hc HX
     generalize f (5 * Y + m1) = q1 at hc1 HX
     generalize f (5 * Y + m2) = q2 at hc2 HX
     generalize (stL (upQ (fun _ => 0) (chL f) (5 * Y + X))).getD (5 * Y + X) 0 = q3 at ho
     have v1 : IntKind.i64.wrap ((X : Int) + 1) = (X : Int) + 1 := IntWalk.i64_in _ (by omega)
     have v2 : IntKind.i64.wrap ((X : Int) + 2) = (X : Int) + 2 := IntWalk.i64_in _ (by omega)
     have t1 : ((X : Int) + 1).tmod 5 = (m1 : Int) := by rw [Int.tmod_eq_emod_of_nonneg (by omega)]; omega
     have t2 : ((X : Int) + 2).tmod 5 = (m2 : Int) := by rw [Int.tmod_eq_emod_of_nonneg (by omega)]; omega
     have u1 : ((X : Int) + 1) % 5 = (m1 : Int) := by omega
     have u2 : ((X : Int) + 2) % 5 = (m2 : Int) := by omega
     have wX : IntKind.i64.wrap (5 * (Y : Int) + (X : Int)) = 5 * (Y : Int) + (X : Int) := IntWalk.i64_in _ (by omega)
     have w1 : IntKind.i64.wrap (5 * (Y : Int) + (m1 : Int)) = 5 * (Y : Int) + (m1 : Int) := IntWalk.i64_in _ (by omega)
     have w2 : IntKind.i64.wrap (5 * (Y : Int) + (m2 : Int)) = 5 * (Y : Int) + (m2 : Int) := IntWalk.i64_in _ (by omega)
     have nX : (5 * (Y : Int) + (X : Int)).toNat = 5 * Y + X := by omega
     have n1 : (5 * (Y : Int) + (m1 : Int)).toNat = 5 * Y + m1 := by omega
     have n2 : (5 * (Y : Int) + (m2 : Int)).toNat = 5 * Y + m2 := by omega
     have pX : 0 ≤ 5 * (Y : Int) + (X : Int) := by omega
     have p1 : 0 ≤ 5 * (Y : Int) + (m1 : Int) := by omega
     have p2 : 0 ≤ 5 * (Y : Int) + (m2 : Int) := by omega
     have lX : 5 * (Y : Int) + (X : Int) < 25 := by omega
     have l1 : 5 * (Y : Int) + (m1 : Int) < 25 := by omega
     have l2 : 5 * (Y : Int) + (m2 : Int) < 25 := by omega
     clear hI3 ro3 hm1 hm2
     go_wp2_with fail
     refine wpE_begin 26 (by kernel_rfl) ?_
     refine wpE_t (i := 0) (oi := ⟨some 15, .move (.tmp 5), 3, "keccak.go:73", #[], none⟩) (v := ?_) ?_ ?_
     rotate_left
     ·intro W hW; go_simp <;> with_reducible rfl
     try simp only [Act.put, putA, putB, putC]
     refine wpE_t (i := 1) (oi := ⟨some 16, .move (.tmp 6), 3, "keccak.go:73", #[], none⟩) (v := ?_) ?_ ?_
     rotate_left
     ·intro W hW; go_simp <;> with_reducible rfl
     try simp only [Act.put, putA, putB, putC]
     refine wpE_t (i := 2) (oi := ⟨some 17, .binOp .add 3 (.tmp 15) (.tmp 16) 3, 3, "keccak.go:73", #[⟨0, .data⟩, ⟨1, .data⟩], none⟩) (v := ?_) ?_ ?_
     rotate_left
     ·intro W hW; go_simp <;> with_reducible rfl
     try simp only [Act.put, putA, putB, putC]
     refine wpE_t (i := 3) (oi := ⟨some 18, .move (.tmp 5), 3, "keccak.go:73", #[], none⟩) (v := ?_) ?_ ?_
     rotate_left
     ·intro W hW; go_simp <;> with_reducible rfl
     try simp only [Act.put, putA, putB, putC]
     refine wpE_t (i := 4) (oi := ⟨some 19, .move (.tmp 6), 3, "keccak.go:73", #[], none⟩) (v := ?_) ?_ ?_
     rotate_left
     ·intro W hW; go_simp <;> with_reducible rfl
     try simp only [Act.put, putA, putB, putC]
     refine wpE_t (i := 5) (oi := ⟨some 20, .binOp .add 3 (.tmp 18) (.tmp 19) 3, 3, "keccak.go:73", #[⟨3, .data⟩, ⟨4, .data⟩], none⟩) (v := ?_) ?_ ?_
     rotate_left
     ·intro W hW; go_simp <;> with_reducible rfl
     try simp only [Act.put, putA, putB, putC]
     refine wpE_t (i := 6) (oi := ⟨some 21, .indexAddr 73 (.tmp 1) (.tmp 20), 0, "keccak.go:73", #[⟨5, .data⟩], none⟩) (v := ?_) ?_ ?_
     rotate_left
     ·intro W hW; go_simp <;> with_reducible rfl
     try simp only [Act.put, putA, putB, putC]
     refine wpE_t (i := 7) (oi := ⟨some 22, .load 27 (.tmp 21), 27, "keccak.go:73", #[⟨6, .data⟩], none⟩) (v := ?_) ?_ ?_
     rotate_left
     ·intro W hW; have hcW := cellU hc hW; go_simp <;> with_reducible rfl
     try simp only [Act.put, putA, putB, putC]
     refine wpE_t (i := 8) (oi := ⟨some 23, .move (.tmp 5), 3, "keccak.go:73", #[], none⟩) (v := ?_) ?_ ?_
     rotate_left
     ·intro W hW; go_simp <;> with_reducible rfl
     try simp only [Act.put, putA, putB, putC]
     refine wpE_t (i := 9) (oi := ⟨some 24, .move (.tmp 6), 3, "keccak.go:73", #[], none⟩) (v := ?_) ?_ ?_
     rotate_left
     ·intro W hW; go_simp <;> with_reducible rfl
     try simp only [Act.put, putA, putB, putC]
     refine wpE_t (i := 10) (oi := ⟨some 25, .binOp .add 3 (.tmp 24) (.const (.int .i64 1)) 3, 3, "keccak.go:73", #[⟨9, .data⟩], none⟩) (v := ?_) ?_ ?_
     rotate_left
     ·intro W hW; go_simp <;> with_reducible rfl
     try simp only [Act.put, putA, putB, putC]
     refine wpE_t (i := 11) (oi := ⟨some 26, .binOp .rem 3 (.tmp 25) (.const (.int .i64 5)) 3, 3, "keccak.go:73", #[⟨10, .data⟩], none⟩) (v := ?_) ?_ ?_
     rotate_left
     ·intro W hW; go_simp <;> with_reducible rfl
     try simp only [Act.put, putA, putB, putC]
     refine wpE_t (i := 12) (oi := ⟨some 27, .binOp .add 3 (.tmp 23) (.tmp 26) 3, 3, "keccak.go:73", #[⟨8, .data⟩, ⟨11, .data⟩], none⟩) (v := ?_) ?_ ?_
     rotate_left
     ·intro W hW; go_simp <;> with_reducible rfl
     try simp only [Act.put, putA, putB, putC]
     refine wpE_t (i := 13) (oi := ⟨some 28, .indexAddr 73 (.tmp 1) (.tmp 27), 0, "keccak.go:73", #[⟨12, .data⟩], none⟩) (v := ?_) ?_ ?_
     rotate_left
     ·intro W hW; go_simp <;> with_reducible rfl
     try simp only [Act.put, putA, putB, putC]
     refine wpE_t (i := 14) (oi := ⟨some 29, .load 27 (.tmp 28), 27, "keccak.go:73", #[⟨13, .data⟩], none⟩) (v := ?_) ?_ ?_
     rotate_left
     ·intro W hW; have hcW := cellU hc1 hW; go_simp <;> with_reducible rfl
     try simp only [Act.put, putA, putB, putC]
     refine wpE_t (i := 15) (oi := ⟨some 30, .unOp .xor 27 (.tmp 29), 27, "keccak.go:73", #[⟨14, .data⟩], none⟩) (v := ?_) ?_ ?_
     rotate_left
     ·intro W hW; go_simp <;> with_reducible rfl
     try simp only [Act.put, putA, putB, putC]
     refine wpE_t (i := 16) (oi := ⟨some 31, .move (.tmp 5), 3, "keccak.go:73", #[], none⟩) (v := ?_) ?_ ?_
     rotate_left
     ·intro W hW; go_simp <;> with_reducible rfl
     try simp only [Act.put, putA, putB, putC]
     refine wpE_t (i := 17) (oi := ⟨some 32, .move (.tmp 6), 3, "keccak.go:73", #[], none⟩) (v := ?_) ?_ ?_
     rotate_left
     ·intro W hW; go_simp <;> with_reducible rfl
     try simp only [Act.put, putA, putB, putC]
     refine wpE_t (i := 18) (oi := ⟨some 33, .binOp .add 3 (.tmp 32) (.const (.int .i64 2)) 3, 3, "keccak.go:73", #[⟨17, .data⟩], none⟩) (v := ?_) ?_ ?_
     rotate_left
     ·intro W hW; go_simp <;> with_reducible rfl
     try simp only [Act.put, putA, putB, putC]
     refine wpE_t (i := 19) (oi := ⟨some 34, .binOp .rem 3 (.tmp 33) (.const (.int .i64 5)) 3, 3, "keccak.go:73", #[⟨18, .data⟩], none⟩) (v := ?_) ?_ ?_
     rotate_left
     ·intro W hW; go_simp <;> with_reducible rfl
     try simp only [Act.put, putA, putB, putC]
     refine wpE_t (i := 20) (oi := ⟨some 35, .binOp .add 3 (.tmp 31) (.tmp 34) 3, 3, "keccak.go:73", #[⟨16, .data⟩, ⟨19, .data⟩], none⟩) (v := ?_) ?_ ?_
     rotate_left
     ·intro W hW; go_simp <;> with_reducible rfl
     try simp only [Act.put, putA, putB, putC]
     refine wpE_t (i := 21) (oi := ⟨some 36, .indexAddr 73 (.tmp 1) (.tmp 35), 0, "keccak.go:73", #[⟨20, .data⟩], none⟩) (v := ?_) ?_ ?_
     rotate_left
     ·intro W hW; go_simp <;> with_reducible rfl
     try simp only [Act.put, putA, putB, putC]
     refine wpE_t (i := 22) (oi := ⟨some 37, .load 27 (.tmp 36), 27, "keccak.go:73", #[⟨21, .data⟩], none⟩) (v := ?_) ?_ ?_
     rotate_left
     ·intro W hW; have hcW := cellU hc2 hW; go_simp <;> with_reducible rfl
     try simp only [Act.put, putA, putB, putC]
     refine wpE_t (i := 23) (oi := ⟨some 38, .binOp .and 27 (.tmp 30) (.tmp 37) 27, 27, "keccak.go:73", #[⟨15, .data⟩, ⟨22, .data⟩], none⟩) (v := ?_) ?_ ?_
     rotate_left
     ·intro W hW; go_simp <;> with_reducible rfl
     try simp only [Act.put, putA, putB, putC]
     refine wpE_t (i := 24) (oi := ⟨some 39, .binOp .xor 27 (.tmp 22) (.tmp 38) 27, 27, "keccak.go:73", #[⟨7, .data⟩, ⟨23, .data⟩], none⟩) (v := ?_) ?_ ?_
     rotate_left
     ·intro W hW; go_simp <;> with_reducible rfl
     try simp only [Act.put, putA, putB, putC]
     refine wpE_t (i := 25) (oi := ⟨some 40, .indexAddr 73 (.tmp 3) (.tmp 17), 0, "keccak.go:73", #[⟨2, .data⟩, ⟨0, .phase⟩, ⟨1, .phase⟩, ⟨2, .phase⟩, ⟨3, .phase⟩, ⟨4, .phase⟩, ⟨5, .phase⟩, ⟨6, .phase⟩, ⟨7, .phase⟩, ⟨8, .phase⟩, ⟨9, .phase⟩, ⟨10, .phase⟩, ⟨11, .phase⟩, ⟨12, .phase⟩, ⟨13, .phase⟩, ⟨14, .phase⟩, ⟨15, .phase⟩, ⟨16, .phase⟩, ⟨17, .phase⟩, ⟨18, .phase⟩, ⟨19, .phase⟩, ⟨20, .phase⟩, ⟨21, .phase⟩, ⟨22, .phase⟩, ⟨23, .phase⟩, ⟨24, .phase⟩], none⟩) (v := ?_) ?_ ?_
     rotate_left
     ·intro W hW; go_simp <;> with_reducible rfl
     try simp only [Act.put, putA, putB, putC]
     refine wpE_last (o := ⟨none, .store 27 (.tmp 40) (.tmp 39), 0, "keccak.go:73", #[⟨25, .data⟩, ⟨24, .data⟩, ⟨0, .phase⟩, ⟨1, .phase⟩, ⟨2, .phase⟩, ⟨3, .phase⟩, ⟨4, .phase⟩, ⟨5, .phase⟩, ⟨6, .phase⟩, ⟨7, .phase⟩, ⟨8, .phase⟩, ⟨9, .phase⟩, ⟨10, .phase⟩, ⟨11, .phase⟩, ⟨12, .phase⟩, ⟨13, .phase⟩, ⟨14, .phase⟩, ⟨15, .phase⟩, ⟨16, .phase⟩, ⟨17, .phase⟩, ⟨18, .phase⟩, ⟨19, .phase⟩, ⟨20, .phase⟩, ⟨21, .phase⟩, ⟨22, .phase⟩, ⟨23, .phase⟩, ⟨24, .phase⟩], none⟩) (by kernel_rfl) (by kernel_rfl) rfl (by rfl) fun K hK => ?_
     go_simp
     refine hK.out _ _ ?_
     clear hK K
     try simp only [Act.put, putA, putB, putC]

     obtain ⟨ro4, hI4⟩ := HS.out _ HX.out
     have hI5 := hI4.drew
     have ro5 := ro4.drew
     go_wp2
     go_roundw
     case rel => exact ⟨X + 1, by omega, by go_num, hI5, ro5⟩
     case measure => simp [intOf]; omega
    ·have hXe : X = 5 := by omega
     subst hXe
     rw [show 5 * Y + 5 = 5 * (Y + 1) by omega] at ro3
     go_wp2
     go_roundw
     case rel => exact ⟨Y + 1, by omega, by go_num, hI3, ro3⟩
     case measure => simp [intOf]; omega
  ·have hYe : Y = 5 := by omega
   subst hYe
   have r1 := ro2
   rw [upQ_done] at r1
   have r2 := hI2.r
   go_wp2_with (first | refine wpList_load_row rfl 73 _ rfl rfl r1 _ Tryz.underlying73 rfl (arrInfo _) ?_ | (refine wpList_store_row rfl 73 _ _ rfl (stL (chL f)) rfl rfl r2 (by simp [stL_length]) (arrInfo _) ?_; intro w2 r3 hw))
   refine bodyPost_row (p := 2) (ty := 73) rfl rfl rfl r3 Tryz.underlying73 rfl (arrInfo _) ?_
   exact ⟨rfl, hw.below _ _ (by omega) hI2.b⟩
theorem rdL_congr {f g : Nat → Nat} (hf : ∀ i, f i < 18446744073709551616) (hg : ∀ i, g i < 18446744073709551616) (h : ∀ i, i < 25 → f i = g i) (n : Nat) (hn : n < 24) (k : Nat) (hk : k < 25) : rdL f n k = rdL g n k := by
 rw [rdL_eq f hf n hn k hk, rdL_eq g hg n hn k hk]
 exact rdF_congr h n k hk
theorem cells64 : Tryz.prog.cellsOf 27 = 1 := by kernel_rfl
theorem eq_states (f g : Nat → Nat) (A B : Array Value) (hA : A = ((stL f).map (Value.int .u64)).toArray) (hB : B = ((stL g).map (Value.int .u64)).toArray) (w : World) :
  (Op.equalIn 10000 73 (.agg A) (.agg B)).run Tryz.prog w = .ok (decide (stL f = stL g)) w := by
 subst hA hB
 exact run_equal_row w 9998 Tryz.underlying73 Tryz.underlying27 cells64 _ _ (stL_length f) (stL_length g)

set_option maxHeartbeats 1000000 in
theorem kRound_in (A : Array Value) (f : Nat → Nat) (hf : ∀ i, f i < 18446744073709551616) (hA : A = ((stL f).map (Value.int .u64)).toArray) (n : Nat) (hlt : n < 24) (w : World) (ht : Tabs w) :
  Calls Tryz.prog 84 #[.agg A, .int .i64 (n : Int)] w fun e w' => e = .returned (arrV (rdL f n)) ∧ Below w.heap.size w w' := by
 have hr : decide (0 ≤ (n : Int) ∧ (n : Int) ≤ 23) = true := decide_eq_true (by omega)
 have HA : Hid _ := hA
 have HF : Hid (∀ i, f i < 18446744073709551616) := hf
 clear hA hf
 have hio : ∀ g : Nat → Nat, ioI g (n : Int) = ioK g n := fun g => by unfold ioI; rw [if_pos (by omega), Int.toNat_natCast]
 have HIO : Hid _ := hio
 clear hio
 go_enter Tryz.func84, Tryz.ntmps84
 go_wp2_with fail
 rw [HA.out]
 obtain ⟨W, hW, hI, hs⟩ := two_rows f w _ zeros25 ht
 rw [hW]
 clear hW ht
 refine (isRound_any _ _).mono ?_
 rintro e w1 ⟨rfl, rfl⟩
 rw [hr]
 clear hr
 have r1 := hI.a
 have hq := eq_states f (fun _ => 0) _ _ rfl zeros25 w1
 by_cases hz : stL f = stL (fun _ => 0)
 ·rw [decide_eq_true hz] at hq
  have HZ : Hid _ := hz
  clear hz
  go_wp2_with (refine wpList_load_row rfl 73 _ rfl rfl r1 _ Tryz.underlying73 rfl (arrInfo _) ?_)
  refine (kIota_any _ (fun _ => 0) (fun _ => by decide) (by rw [HZ.out]) _ _ hI.t).mono ?_
  rintro e w2 ⟨rfl, hB⟩
  rw [HIO.out]
  have hI2 := hI.kept hB
  have r2 := hI2.r
  clear hq r1 hI hs hB
  go_wp2_with ((refine wpList_store_row rfl 73 _ _ rfl (stL (ioK (fun _ => 0) n)) rfl rfl r2 (by simp [stL_length]) (arrInfo _) ?_; intro w3 r3 hw))
  refine bodyPost_row (p := 4) (ty := 73) rfl rfl rfl r3 Tryz.underlying73 rfl (arrInfo _) ?_
  refine ⟨?_, hw.below _ _ (by omega) hI2.b⟩
  have e : stL (ioK (fun _ => 0) n) = stL (rdL f n) := by
   rw [← rdL_noughts]
   exact stL_congr fun k hk => rdL_congr (fun _ => by decide) HF.out (fun i hi => (stL_inj HZ.out i hi).symm) n hlt k hk
  show Ending.returned (.agg ((stL (ioK (fun _ => 0) n)).map (Value.int .u64)).toArray) = _
  rw [e]
 ·rw [decide_eq_false hz] at hq
  clear hz
  go_wp2_with (refine wpList_load_row rfl 73 _ rfl rfl r1 _ Tryz.underlying73 rfl (arrInfo _) ?_)
  refine (kTheta_any _ f HF.out rfl _ hI.t).mono ?_
  rintro e w2 ⟨rfl, hB⟩
  have hI2 := hI.kept hB
  clear hq r1 hI hs hB
  go_wp2_with fail
  refine (kRho_any _ (thL f) (thL_lt f HF.out) rfl _ hI2.t).mono ?_
  rintro e w3 ⟨rfl, hB⟩
  have hI3 := hI2.kept hB
  clear hI2 hB
  go_wp2_with fail
  refine (kPi_any _ (rhL (thL f)) (rhL_lt _ (thL_lt f HF.out)) rfl _ hI3.t).mono ?_
  rintro e w4 ⟨rfl, hB⟩
  have hI4 := hI3.kept hB
  clear hI3 hB
  go_wp2_with fail
  refine (kChi_any _ (piF (rhL (thL f))) (piF_lt _ (rhL_lt _ (thL_lt f HF.out))) rfl _ hI4.t).mono ?_
  rintro e w5 ⟨rfl, hB⟩
  have hI5 := hI4.kept hB
  clear hI4 hB
  go_wp2_with fail
  refine (kIota_any _ (chL (piF (rhL (thL f)))) (chL_lt _ (piF_lt _ (rhL_lt _ (thL_lt f HF.out)))) rfl _ _ hI5.t).mono ?_
  rintro e w6 ⟨rfl, hB⟩
  rw [HIO.out]
  have hI6 := hI5.kept hB
  have r2 := hI6.r
  clear hI5 hB
  go_wp2_with ((refine wpList_store_row rfl 73 _ _ rfl (stL (rdL f n)) rfl rfl r2 (by simp [stL_length]) (arrInfo _) ?_; intro w7 r3 hw))
  refine bodyPost_row (p := 4) (ty := 73) rfl rfl rfl r3 Tryz.underlying73 rfl (arrInfo _) ?_
  exact ⟨rfl, hw.below _ _ (by omega) hI6.b⟩
set_option maxHeartbeats 1000000 in
theorem kF_any (A : Array Value) (f : Nat → Nat) (hf : ∀ i, f i < 18446744073709551616) (hA : A = ((stL f).map (Value.int .u64)).toArray) (w : World) (ht : Tabs w) :
  Calls Tryz.prog 71 #[.agg A] w fun e w' => e = .returned (arrV (rdsL f 24)) ∧ Below w.heap.size w w' := by
 have HA : Hid _ := hA
 have HF : Hid (∀ i, f i < 18446744073709551616) := hf
 clear hA hf
 go_enter Tryz.func71, Tryz.ntmps71
 go_wp2
 rw [HA.out]
 obtain ⟨W, hW, hI, hs⟩ := two_rows f w _ zeros25 ht
 rw [hW]
 clear hW ht
 go_loopw [4] (fun i wr => ∃ j : Nat, j ≤ 24 ∧ i = .int .i64 j ∧ KI w (rdsL f j) wr) (fun i _ => 24 - (intOf i).toNat)
 case atStart => exact ⟨0, by omega, rfl, hI⟩
 case round =>
  obtain ⟨j, hj, rfl, hI2⟩ := hrel
  clear hI hs
  by_cases hlt : j < 24
  ·have hd : decide ((j : Int) < 24) = true := decide_eq_true (by omega)
   have hjI : (j : Int) < 24 := by omega
   have r1 := hI2.a
   go_wp2_with (refine wpList_load_row rfl 73 _ rfl rfl r1 _ Tryz.underlying73 rfl (arrInfo _) ?_)
   refine (kRound_in _ (rdsL f j) (rdsL_lt f HF.out j (by omega)) rfl j hlt _ hI2.t).mono ?_
   rintro e w2 ⟨rfl, hB⟩
   have hI3 := hI2.kept hB
   have r2 := hI3.a
   clear r1 hI2 hB
   go_wp2_with ((refine wpList_store_row rfl 73 _ _ rfl (stL (rdL (rdsL f j) j)) rfl rfl r2 (by simp [stL_length]) (arrInfo _) ?_; intro w3 r3 hw))
   have hI4 : KI w (rdsL f (j + 1)) w3 := hI3.whole r3 hw
   go_roundw
   case rel => exact ⟨j + 1, by omega, by go_num, hI4⟩
   case measure => simp [intOf]; omega
  ·have hje : j = 24 := by omega
   subst hje
   have r1 := hI2.a
   have r2 := hI2.r
   go_wp2_with (first | refine wpList_load_row rfl 73 _ rfl rfl r1 _ Tryz.underlying73 rfl (arrInfo _) ?_ | (refine wpList_store_row rfl 73 _ _ rfl (stL (rdsL f 24)) rfl rfl r2 (by simp [stL_length]) (arrInfo _) ?_; intro w2 r3 hw))
   refine bodyPost_row (p := 2) (ty := 73) rfl rfl rfl r3 Tryz.underlying73 rfl (arrInfo _) ?_
   exact ⟨rfl, hw.below _ _ (by omega) hI2.b⟩
end Go.Proofs.YtdlmmcilembjgaaGreatDoor

namespace Go.Proofs.YtdlmmcilembjgaaGreatDoor
set_option linter.unusedSimpArgs false
set_option linter.unusedVariables false
def evS (l : List Nat) (k : Nat) : Nat := l.getD k 0
theorem evS_step (f : Nat → Nat) (i : Nat) (hi : i < 24) (l m : List Nat) (hl : ∀ k, evS l k < 18446744073709551616) (hs : ∀ k, k < 25 → rdL (evS l) i k = evS m k) (h : ∀ k, k < 25 → rdsF f i k = evS l k) : ∀ k, k < 25 → rdsF f (i + 1) k = evS m k :=
 fun k hk => (rdF_congr h i k hk).trans ((rdL_eq (evS l) hl i hi k hk).symm.trans (hs k hk))
end Go.Proofs.YtdlmmcilembjgaaGreatDoor

namespace Go.Proofs.YtdlmmcilembjgaaGreatDoor
open Go.ChangeShapes Go.WideShapes Go.ChangeAt Go.RowKit
set_option linter.unusedSimpArgs false
set_option linter.unusedVariables false

theorem max25 {f : Nat → Nat} : (stL f).length ≤ maxLen := by rw [stL_length]; simp [maxLen]
structure St (w0 : World) (L : List (Nat × (Nat → Nat))) (w : World) : Prop where
 rows : ∀ p ∈ L, RowAt .u64 73 p.1 25 (stL p.2) w
 b : Below w0.heap.size w0 w
 t : Tabs w
theorem St.kept {w0 w w' : World} {L : List (Nat × (Nat → Nat))} (h : St w0 L w) (hb : Below w.heap.size w w') : St w0 L w' := ⟨fun p hp => (h.rows p hp).kept hb, stepB h.b hb, h.t.kept hb⟩
theorem St.step {w0 w w' : World} {o : Obj} {L : List (Nat × (Nat → Nat))} {F : Nat → Nat} (h : St w0 L w) (hr : RowAt .u64 73 w.heap.size 25 (stL F) w') (hw : Wrote w.heap.size (w.alloc o) w') : St w0 ((w.heap.size, F) :: L) w' := by
 have h1 := h.kept (growB o)
 refine ⟨fun p hp => ?_, hw.below _ _ h.b.size h1.b, h1.t.wrote hw h.t.two⟩
 rcases List.mem_cons.1 hp with rfl | hp
 ·exact hr
 ·refine (h1.rows p hp).wrote hw ?_
  have := (h.rows p hp).lt
  omega
theorem St.fresh {w : World} {cs : Array Value} {F : Nat → Nat} (ht : Tabs w) (h : cs = ((stL F).map (Value.int .u64)).toArray) : St w [(w.heap.size, F)] (w.alloc (.cells cs 73)) := by
 refine ⟨fun p hp => ?_, growB _, ht.kept (growB _)⟩
 obtain rfl := List.mem_singleton.1 hp
 exact RowAt.fresh (stL F) h rfl (stL_length F).symm (stL_ne F) max25
theorem St.cell {w0 w : World} {L : List (Nat × (Nat → Nat))} (h : St w0 L w) (g : Nat) (F : Nat → Nat) (hp : (g, F) ∈ L) (j : Nat) (hj : j < 25) (v : Int) (hv : ((F j : Nat) : Int) = v) : w.cell? ⟨g, j, none⟩ = some (.int .u64 v) := by
 have := (h.rows (g, F) hp).cell (j := j) (by rw [stL_length]; exact hj)
 rw [stL_get _ _ hj] at this
 rw [this, ← hv]
theorem byF_shr (f : Nat → Nat) (n : Nat) : ((f (n / 8) : Nat) : Int) / 2 ^ (8 * (n % 8)) % 256 = ((byF f n).toNat : Int) := stB_shr (f (n / 8)) (n % 8)

set_option maxHeartbeats 400000 in
theorem byteAt_any (A : Array Value) (f : Nat → Nat) (hf : ∀ i, f i < 18446744073709551616) (hA : A = ((stL f).map (Value.int .u64)).toArray) (n : Nat) (hn : n < 200) (w : World) :
  Calls Tryz.prog 56 #[.agg A, .int .i64 (n : Int)] w fun e w' => e = .returned (.int .u8 ((byF f n).toNat : Int)) ∧ Below w.heap.size w w' := by
 have HA : Hid _ := hA
 have hq := hf (n / 8)
 clear hA hf
 obtain ⟨d, hd⟩ : ∃ d : Nat, d = n / 8 := ⟨_, rfl⟩
 obtain ⟨m, hm⟩ : ∃ m : Nat, m = n % 8 := ⟨_, rfl⟩
 have td : (n : Int).tdiv 8 = (d : Int) := by rw [hd, Int.tdiv_eq_ediv_of_nonneg (by omega)]; omega
 have tm : (n : Int).tmod 8 = (m : Int) := by rw [hm, Int.tmod_eq_emod_of_nonneg (by omega)]; omega
 have bd : (d : Int) < 25 := by omega
 have bm : (m : Int) < 8 := by omega
 have w8 : IntKind.i64.wrap (8 * (m : Int)) = 8 * (m : Int) := IntWalk.i64_in _ (by omega)
 have n8 : (8 * (m : Int)).toNat = 8 * m := by omega
 have HE : Hid _ := byF_shr f n
 rw [← hm] at HE
 rw [← hd] at HE hq
 have r0 : RowAt .u64 73 w.heap.size 25 (stL f) (w.alloc (.cells A 73)) := RowAt.fresh (stL f) HA.out rfl (stL_length f).symm (stL_ne f) max25
 have hc := r0.cell (j := d) (by rw [stL_length]; omega)
 rw [stL_get _ _ (by omega)] at hc
 have hb : Below w.heap.size w (w.alloc (.cells A 73)) := growB _
 generalize f d = q at hc HE hq
 clear r0 HA hd hm
 go_enter Tryz.func56, Tryz.ntmps56
 go_wp2
 go_ret
 exact ⟨retI (by first | exact HE.out | simpa using HE.out), hb⟩

theorem New.of_fill {e : TypeId} {w wb : World} {B n : Nat} {f : Nat → UInt8} {wr : World} (h : Fill e wb B n f n wr) (hb : Below w.heap.size w wb) : New e w (.slice (some ⟨B, 0, none⟩) n n) ((List.range n).map f) wr := h.done.from hb
theorem Fill.kept {e : TypeId} {w : World} {B n : Nat} {f : Nat → UInt8} {k : Nat} {wr w2 : World} (h : Fill e w B n f k wr) (hb : Below wr.heap.size wr w2) : Fill e w B n f k w2 := ⟨ownsRow_below h.1 hb, h.2.trans (hb.mono h.2.size)⟩

set_option maxHeartbeats 400000 in
theorem first_any (A : Array Value) (f : Nat → Nat) (hf : ∀ i, f i < 18446744073709551616) (hA : A = ((stL f).map (Value.int .u64)).toArray) (n : Nat) (hn : n ≤ 200) (w : World) :
  Calls Tryz.prog 42 #[.agg A, .int .i64 (n : Int)] w fun e w' => ∃ v, e = .returned v ∧ New 5 w v (bsP f n) w' := by
 obtain ⟨i, hi, hz0, hz1, hz2⟩ := info_parts info5
 have HA : Hid _ := hA
 have HF : Hid (∀ i, f i < 18446744073709551616) := hf
 clear hA hf
 have r0 : RowAt .u64 73 w.heap.size 25 (stL f) (w.alloc (.cells A 73)) := RowAt.fresh (stL f) HA.out rfl (stL_length f).symm (stL_ne f) max25
 have hb : Below w.heap.size w (w.alloc (.cells A 73)) := growB _
 go_enter Tryz.func42, Tryz.ntmps42
 go_wp2_with (at_make; go_must (refine wpList_make_full _ rfl _ _ 26 rfl (w.heap.size + 1) 5 i _ 1 Tryz.underlying26 hi hz0 hz1 _ _ _ _ n rfl rfl (by omega) (by omega) (by rw [hz2]; omega) (by unfold maxLen; omega) (by simp) ?_))
 intro w1 hown hgr
 have hF : Fill 5 (w.alloc (.cells A 73)) (w.heap.size + 1) n (byF f) 0 w1 := by
  have h1 : (w.alloc (.cells A 73)).heap.size = w.heap.size + 1 := by simp
  have := Fill.start (w := w.alloc (.cells A 73)) (byF f) (by rw [h1]; exact hown) hgr
  rwa [h1] at this
 clear hown hgr
 generalize w.alloc (.cells A 73) = wb at hF r0 hb
 go_wp2
 go_loopw [10] (fun i wr => ∃ j : Nat, j ≤ n ∧ i = .int .i64 j ∧ Fill 5 wb (w.heap.size + 1) n (byF f) j wr) (fun i _ => n - (intOf i).toNat)
 case atStart => exact ⟨0, Nat.zero_le _, rfl, hF⟩
 case round =>
  obtain ⟨j, hj, rfl, hFj⟩ := hrel
  clear hF
  by_cases hlt : j < n
  ·have hdt : decide ((j : Int) < (n : Int)) = true := decide_eq_true (by omega)
   have hjI : (j : Int) < n := by omega
   have r1 := r0.kept (hFj.2)
   go_wp2_with (refine wpList_load_row rfl 73 _ rfl rfl r1 _ Tryz.underlying73 rfl (arrInfo _) ?_)
   refine (byteAt_any _ f HF.out rfl j (by omega) _).mono ?_
   rintro e w2 ⟨rfl, hB⟩
   have hF2 := hFj.kept hB
   obtain ⟨hcj, hfj⟩ := hF2.cell hlt
   clear r1 hB hFj
   go_wp2
   go_roundw
   case rel => exact ⟨j + 1, by omega, by go_num, hF2.step rfl⟩
   case measure => simp [intOf]; omega
  ·have hje : j = n := by omega
   subst hje
   go_wp2
   go_ret
   exact ⟨_, rfl, New.of_fill hFj hb⟩
theorem leN_noughts : ∀ n, leN (List.replicate n 0) = 0
 | 0 => rfl
 | n + 1 => by rw [List.replicate_succ, leN_cons, leN_noughts n]; rfl
theorem leN_pad (z : Nat) : ∀ l : List UInt8, leN (l ++ List.replicate z 0) = leN l
 | [] => by simpa [leN] using leN_noughts z
 | x :: xs => by rw [List.cons_append, leN_cons, leN_cons, leN_pad z xs]
theorem lane_any (l : List UInt8) (j : Nat) : leN (((l.drop (8 * j)).take (l.length - 8 * j)).take 8) = xbl (fun k => l.getD k 0) l.length j := by
 unfold xbl
 have e : (List.range 8).map (fun t => if 8 * j + t < l.length then l.getD (8 * j + t) 0 else 0) = (l.drop (8 * j)).take 8 ++ List.replicate (8 - (l.length - 8 * j)) 0 := by
  refine List.ext_getElem (by simp; omega) fun t h1 h2 => ?_
  have ht : t < 8 := by simpa using h1
  by_cases h : 8 * j + t < l.length
  ·rw [List.getElem_append_left (by simp; omega)]
   simp [h]
  ·rw [List.getElem_append_right (by simp; omega)]
   simp [h]
 rw [e, leN_pad, show (l.drop (8 * j)).take (l.length - 8 * j) = l.drop (8 * j) from List.take_of_length_le (by simp)]
theorem xbl_none (blk : Nat → UInt8) (r j : Nat) (h : r ≤ 8 * j) : xbl blk r j = 0 := by
 have e : (List.range 8).map (fun t => if 8 * j + t < r then blk (8 * j + t) else 0) = List.replicate 8 0 := by
  refine List.ext_getElem (by simp) fun t h1 h2 => ?_
  simp only [List.getElem_map, List.getElem_range, List.getElem_replicate]
  rw [if_neg (by omega)]
 unfold xbl
 rw [e, leN_noughts]
theorem arrV_congr {f g : Nat → Nat} (h : ∀ i, i < 25 → f i = g i) : arrV f = arrV g := by
 show Value.agg _ = Value.agg _
 rw [stL_congr h]
theorem arrV_F (f : Nat → Nat) (hf : ∀ i, f i < 18446744073709551616) : arrV (rdsL f 24) = arrV (rdsF f 24) := arrV_congr fun i hi => rdsL_eq f hf 24 (Nat.le_refl _) i hi

set_option maxRecDepth 100000 in
set_option maxHeartbeats 1000000 in
theorem take_any (A : Array Value) (f : Nat → Nat) (hf : ∀ i, f i < 18446744073709551616) (hA : A = ((stL f).map (Value.int .u64)).toArray) (vb : Value) (l : List UInt8) (hl : l.length ≤ 200) (w : World) (hr : Rd w vb l) (ht : Tabs w) :
  Calls Tryz.prog 57 #[.agg A, vb] w fun e w' => e = .returned (arrV (tkF f (fun k => l.getD k 0) l.length)) ∧ Below w.heap.size w w' := by
 have HA : Hid _ := hA
 have HF : Hid (∀ i, f i < 18446744073709551616) := hf
 obtain ⟨a, cap, rfl, h2, h3, h4, -⟩ := id hr
 have HR : Hid (Rd w (.slice a l.length cap) l) := hr
 clear hA hf hr
 obtain ⟨n, hn⟩ : ∃ n : Nat, n = (l.length + 7) / 8 := ⟨_, rfl⟩
 have q1 : IntKind.i64.wrap ((l.length : Int) + 8) = (l.length : Int) + 8 := IntWalk.i64_in _ (by omega)
 have q2 : IntKind.i64.wrap ((l.length : Int) + 8 - 1) = (l.length : Int) + 8 - 1 := IntWalk.i64_in _ (by omega)
 have q3 : ((l.length : Int) + 8 - 1).tdiv 8 = (n : Int) := by rw [Int.tdiv_eq_ediv_of_nonneg (by omega)]; omega
 have q4 : IntKind.i64.wrap (n : Int) = (n : Int) := IntWalk.i64_in _ (by omega)
 go_enter Tryz.func57, Tryz.ntmps57
 go_wp2
 rw [HA.out]
 obtain ⟨W, hW, hI, hs⟩ := two_rows f w _ zeros25 ht
 rw [hW]
 clear hW ht q1 q2 q3 q4
 go_loopw [11] (fun i wr => ∃ j : Nat, j ≤ n ∧ i = .int .i64 j ∧ KI w (upQ f (fun k => f k ^^^ xbl (fun k => l.getD k 0) l.length k) j) wr) (fun i _ => n - (intOf i).toNat)
 case atStart => exact ⟨0, by omega, rfl, by have e := upQ_zero f (fun k => f k ^^^ xbl (fun k => l.getD k 0) l.length k); exact ⟨e ▸ hI.a, hI.r, hI.b, hI.t, hI.two⟩⟩
 case round =>
  obtain ⟨j, hj, rfl, hI2⟩ := hrel
  clear hI hs
  by_cases hlt : j < n
  ·have hd : decide ((j : Int) < (n : Int)) = true := decide_eq_true (by omega)
   have hjn : (j : Int) < n := by omega
   have hjI : (j : Int) < 25 := by omega
   have w8 : IntKind.i64.wrap (8 * (j : Int)) = 8 * (j : Int) := IntWalk.i64_in _ (by omega)
   have n8 : (8 * (j : Int)).toNat = 8 * j := by omega
   have hle : 8 * (j : Int) ≤ (l.length : Int) := by omega
   have hge : (0 : Int) ≤ 8 * (j : Int) := by omega
   have hcn : ¬ cap = 8 * j := by omega
   have hc := hI2.a.cell (j := j) (by rw [stL_length]; omega)
   have hcf := hI2.a.free j
   rw [stL_get _ j (by omega), upQ_get] at hc
   have hq := HF.out j
   obtain ⟨b, off, rfl⟩ : ∃ b off, a = some ⟨b, off, none⟩ := by
    obtain ⟨b, off, cp, e1, _⟩ := HR.out.cellAt (i := 0) (by omega)
    simp only [Value.slice.injEq] at e1
    exact ⟨b, off, e1.1⟩
   have hR1 := (HR.out.kept hI2.b).sub (8 * j) l.length (by omega) (Nat.le_refl _)
   have HLn : Hid _ := lane_any l j
   have HS : Hid (∀ x : Int, x = ((f j ^^^ xbl (fun k => l.getD k 0) l.length j : Nat) : Int) → KI w (upQ f (fun k => f k ^^^ xbl (fun k => l.getD k 0) l.length k) (j + 1)) (wr.setCell ⟨w.heap.size, j, none⟩ (.int .u64 x))) := by
    intro x hx
    exact hI2.set j x (by rw [hx]; exact upQ_set f (fun k => f k ^^^ xbl (fun k => l.getD k 0) l.length k) j)
   have HX : Hid _ := xorI (f j) (xbl (fun k => l.getD k 0) l.length j) hq (xbl_lt _ _ _)
   generalize f j = q0 at hc hq HX HS
   clear hI2
   go_wp2_with fail
   refine wpE_begin 10 (by kernel_rfl) ?_
   refine wpE_t (i := 0) (oi := ⟨some 14, .move (.tmp 5), 3, "sponge.go:63", #[], none⟩) (v := ?_) ?_ ?_
   rotate_left
   ·intro W hW; go_simp <;> with_reducible rfl
   try simp only [Act.put, putA, putB, putC]
   refine wpE_t (i := 1) (oi := ⟨some 15, .indexAddr 73 (.tmp 2) (.tmp 14), 0, "sponge.go:63", #[⟨0, .data⟩], none⟩) (v := ?_) ?_ ?_
   rotate_left
   ·intro W hW; go_simp <;> with_reducible rfl
   try simp only [Act.put, putA, putB, putC]
   refine wpE_t (i := 2) (oi := ⟨some 16, .load 27 (.tmp 15), 27, "sponge.go:63", #[⟨1, .data⟩], none⟩) (v := ?_) ?_ ?_
   rotate_left
   ·intro W hW; have hcW := cellU hc hW; go_simp <;> with_reducible rfl
   try simp only [Act.put, putA, putB, putC]
   refine wpE_t (i := 3) (oi := ⟨some 17, .move (.tmp 1), 26, "sponge.go:63", #[], none⟩) (v := ?_) ?_ ?_
   rotate_left
   ·intro W hW; go_simp <;> with_reducible rfl
   try simp only [Act.put, putA, putB, putC]
   refine wpE_t (i := 4) (oi := ⟨some 18, .move (.tmp 5), 3, "sponge.go:63", #[], none⟩) (v := ?_) ?_ ?_
   rotate_left
   ·intro W hW; go_simp <;> with_reducible rfl
   try simp only [Act.put, putA, putB, putC]
   refine wpE_t (i := 5) (oi := ⟨some 19, .binOp .mul 3 (.const (.int .i64 8)) (.tmp 18) 3, 3, "sponge.go:63", #[⟨4, .data⟩], none⟩) (v := ?_) ?_ ?_
   rotate_left
   ·intro W hW; go_simp <;> with_reducible rfl
   try simp only [Act.put, putA, putB, putC]
   refine wpE_t (i := 6) (oi := ⟨some 20, .slice 26 (.tmp 17) (some (.tmp 19)) none none, 26, "sponge.go:63", #[⟨3, .data⟩, ⟨5, .data⟩], none⟩) (v := ?_) ?_ ?_
   rotate_left
   ·intro W hW; go_simp <;> with_reducible rfl
   try simp only [Act.put, putA, putB, putC]
   refine wpE_do (i := 7) (o := ⟨some 21, .call { callee := .value (.func 70), args := #[.tmp 20], argTypes := #[26] }, 27, "sponge.go:63", #[⟨6, .data⟩], none⟩) (by kernel_rfl) rfl (by rfl) fun K hK => ?_
   go_simp
   refine (load_any _ _ _ hR1.drew).mono ?_
   rintro e w' ⟨rfl, rfl⟩
   refine hK.out _ _ (Below.refl _ _) ?_
   clear hK K
   try simp only [Act.put, putA, putB, putC]
   refine wpE_t (i := 8) (oi := ⟨some 22, .binOp .xor 27 (.tmp 16) (.tmp 21) 27, 27, "sponge.go:63", #[⟨2, .data⟩, ⟨7, .data⟩], none⟩) (v := ?_) ?_ ?_
   rotate_left
   ·intro W hW; go_simp <;> with_reducible rfl
   try simp only [Act.put, putA, putB, putC]
   refine wpE_t (i := 9) (oi := ⟨some 23, .indexAddr 73 (.tmp 2) (.tmp 14), 0, "sponge.go:63", #[⟨0, .data⟩, ⟨0, .phase⟩, ⟨1, .phase⟩, ⟨2, .phase⟩, ⟨3, .phase⟩, ⟨4, .phase⟩, ⟨5, .phase⟩, ⟨6, .phase⟩, ⟨7, .phase⟩, ⟨8, .phase⟩], none⟩) (v := ?_) ?_ ?_
   rotate_left
   ·intro W hW; go_simp <;> with_reducible rfl
   try simp only [Act.put, putA, putB, putC]
   refine wpE_last (o := ⟨none, .store 27 (.tmp 23) (.tmp 22), 0, "sponge.go:63", #[⟨9, .data⟩, ⟨8, .data⟩, ⟨7, .chain⟩, ⟨0, .phase⟩, ⟨1, .phase⟩, ⟨2, .phase⟩, ⟨3, .phase⟩, ⟨4, .phase⟩, ⟨5, .phase⟩, ⟨6, .phase⟩, ⟨7, .phase⟩, ⟨8, .phase⟩], none⟩) (by kernel_rfl) (by kernel_rfl) rfl (by rfl) fun K hK => ?_
   go_simp
   refine hK.out _ _ ?_
   clear hK K
   try simp only [Act.put, putA, putB, putC]
   rw [HLn.out, HX.out]
   have hI3 := (HS.out _ rfl).drew
   go_wp2
   go_roundw
   case rel => exact ⟨j + 1, by omega, by go_num, hI3⟩
   case measure => simp [intOf]; omega
  ·have hd0 : decide ((j : Int) < (n : Int)) = false := decide_eq_false (by omega)
   have hj0 : (n : Int) ≤ j := by omega
   have r1 := hI2.a
   have e1 : stL (upQ f (fun k => f k ^^^ xbl (fun k => l.getD k 0) l.length k) j) = stL (fun k => f k ^^^ xbl (fun k => l.getD k 0) l.length k) := stL_congr fun i hi => by
    unfold upQ
    split
    ·rfl
    ·rw [xbl_none _ _ _ (by omega), Nat.xor_zero]
   rw [e1] at r1
   go_wp2_with (refine wpList_load_row rfl 73 _ rfl rfl r1 _ Tryz.underlying73 rfl (arrInfo _) ?_)
   have hlx : ∀ i, (fun k => f k ^^^ xbl (fun k => l.getD k 0) l.length k) i < 18446744073709551616 := fun i => xor_lt64 (HF.out i) (xbl_lt _ _ _)
   refine (kF_any _ _ hlx rfl _ hI2.t).mono ?_
   rintro e w2 ⟨rfl, hB⟩
   have r2 := (hI2.kept hB).r
   have hb2 := (hI2.kept hB).b
   rw [arrV_F _ hlx]
   clear r1 hI2 hB e1
   go_wp2_with (refine wpList_store_row rfl 73 _ _ rfl (stL (rdsF (fun k => f k ^^^ xbl (fun k => l.getD k 0) l.length k) 24)) rfl rfl r2 (by simp [stL_length]) (arrInfo _) ?_; intro w3 r3 hw)
   refine bodyPost_row (p := 4) (ty := 73) rfl rfl rfl r3 Tryz.underlying73 rfl (arrInfo _) ?_
   exact ⟨rfl, hw.below _ _ (by omega) hb2⟩
def lbF (r : Nat) (s : UInt8) (l : List UInt8) (k : Nat) : UInt8 := (if k < l.length then l.getD k 0 else if k = l.length then s else 0) ^^^ (if k = r - 1 then 128 else 0)
def lbL (r : Nat) (s : UInt8) (l : List UInt8) : List UInt8 := (List.range r).map (lbF r s l)
theorem lbL_length (r : Nat) (s : UInt8) (l : List UInt8) : (lbL r s l).length = r := by simp [lbL]
theorem lb_step (r : Nat) (s : UInt8) (l : List UInt8) (hl : l.length < r) (k : Nat) (hk : k < r) : ((l ++ List.replicate (r - l.length) (0 : UInt8)).set l.length s).getD k 0 = if k < l.length then l.getD k 0 else if k = l.length then s else 0 := by
 rw [List.getD_eq_getElem?_getD, List.getElem?_set]
 by_cases h : k < l.length
 ·rw [if_pos h, if_neg (by omega), List.getElem?_append_left h, List.getD_eq_getElem?_getD]
 ·rw [if_neg h]
  by_cases h2 : k = l.length
  ·subst h2
   rw [if_pos rfl, if_pos (by simp; omega), if_pos rfl]
   rfl
  ·rw [if_neg h2, if_neg (Ne.symm h2), List.getElem?_append_right (by omega), List.getElem?_replicate, if_pos (by omega)]
   rfl
theorem lb_done (r : Nat) (s : UInt8) (l : List UInt8) (hl : l.length < r) :
  ((l ++ List.replicate (r - l.length) (0 : UInt8)).set l.length s).set (r - 1) (((l ++ List.replicate (r - l.length) (0 : UInt8)).set l.length s).getD (r - 1) 0 ^^^ 128) = lbL r s l := by
 have hlen : ((l ++ List.replicate (r - l.length) (0 : UInt8)).set l.length s).length = r := by simp; omega
 refine List.ext_getElem (by rw [List.length_set, hlen, lbL_length]) fun k h1 h2 => ?_
 have hk : k < r := by rw [lbL_length] at h2; exact h2
 have e1 := lb_step r s l hl k hk
 have e3 : (lbL r s l)[k] = lbF r s l k := by simp [lbL]
 rw [e3, List.getElem_set]
 unfold lbF
 by_cases h : r - 1 = k
 ·subst h
  rw [if_pos rfl, if_pos rfl, e1]
 ·have e2 : ((l ++ List.replicate (r - l.length) (0 : UInt8)).set l.length s)[k]'(by rw [hlen]; exact hk) = ((l ++ List.replicate (r - l.length) (0 : UInt8)).set l.length s).getD k 0 := by
   rw [List.getD_eq_getElem?_getD, List.getElem?_eq_getElem (by rw [hlen]; exact hk)]
   rfl
  rw [if_neg h, if_neg (Ne.symm h), ← e1, UInt8.xor_zero]
  exact e2

set_option maxHeartbeats 1000000 in
theorem lastBlock_any (r : Nat) (h2 : r ≤ 200) (s : UInt8) (S : Int) (hS : S = (s.toNat : Int)) (vb : Value) (l : List UInt8) (hl : l.length < r) (w : World) (hr : Rd w vb l) :
  Calls Tryz.prog 58 #[.int .i64 (r : Int), .int .u8 S, vb] w fun e w' => ∃ v, e = .returned v ∧ New 5 w v (lbL r s l) w' := by
 subst hS
 obtain ⟨i, hi, hz0, hz1, hz2⟩ := info_parts info5
 have hsz : (Tryz.prog.info? 5).map (·.size) = some 1 := by kernel_rfl
 have HD : Hid _ := lb_done r s l hl
 obtain ⟨a, cap, rfl, h3, h4, h5, -⟩ := id hr
 go_enter Tryz.func58, Tryz.ntmps58
 go_wp2_with (at_make; go_must (refine wpList_make_full _ rfl _ _ 26 rfl w.heap.size 5 i _ 1 Tryz.underlying26 hi hz0 hz1 _ _ _ _ r rfl rfl (by omega) (by omega) (by rw [hz2]; omega) (by unfold maxLen; omega) (Nat.le_refl _) ?_))
 intro w1 hown hgr
 have hN := New.made hown hgr
 have hr1 := hr.kept hN.2
 clear hown hgr hr
 go_wp2_with (refine wpList_copy_new (w := w) rfl _ _ 26 rfl 5 Tryz.underlying26 hsz _ _ rfl hN _ _ rfl hr1 (by simp; omega) (by intro h; simp at h; omega) ?_)
 intro w2 hN2
 clear hN hr1
 have hlen2 : r = (l ++ List.replicate (r - l.length) (0 : UInt8)).length := by simp; omega
 obtain ⟨g, eg, hg, -, hc, hfz, hset⟩ := own_at hlen2 hN2.1 (j := l.length) hl
 simp only [Option.some.injEq, Addr.mk.injEq, and_true] at eg
 subst eg
 have hN3 : New 5 w (.slice (some ⟨w.heap.size, 0, none⟩) r r) ((l ++ List.replicate (r - l.length) (0 : UInt8)).set l.length s) (w2.setCell ⟨w.heap.size, l.length, none⟩ (.int .u8 (s.toNat : Int))) := ⟨hset s _ rfl, hN2.2.setCell (Nat.le_refl _) _⟩
 have hlI : (l.length : Int) < r := by omega
 obtain ⟨p, hp⟩ : ∃ p : Nat, p = r - 1 := ⟨_, rfl⟩
 have wp1 : IntKind.i64.wrap ((r : Int) - 1) = (p : Int) := by rw [IntWalk.i64_in _ (by omega)]; omega
 have hpI : (p : Int) < r := by omega
 rw [← hp] at HD
 have hlen3 : r = ((l ++ List.replicate (r - l.length) (0 : UInt8)).set l.length s).length := by rw [List.length_set]; exact hlen2
 obtain ⟨g, eg, hg3, -, hc3, hfz3, hset3⟩ := own_at hlen3 hN3.1 (j := p) (by omega)
 simp only [Option.some.injEq, Addr.mk.injEq, and_true] at eg
 subst eg
 have hN4 := hset3 _ _ (byte_xor (((l ++ List.replicate (r - l.length) (0 : UInt8)).set l.length s).getD p 0) 128)
 rw [HD.out] at hN4
 have hb4 := hN3.2.setCell (p := ⟨w.heap.size, p, none⟩) (Nat.le_refl _) (.int .u8 (bits .xor .u8 (((((l ++ List.replicate (r - l.length) (0 : UInt8)).set l.length s).getD p 0).toNat : Nat) : Int) (((128 : UInt8).toNat : Nat) : Int)))
 generalize ((l ++ List.replicate (r - l.length) (0 : UInt8)).set l.length s).getD p 0 = x at hc3 hN4 hb4
 have HN : Hid (New 5 w (.slice (some ⟨w.heap.size, 0, none⟩) r r) (lbL r s l) ((w2.setCell ⟨w.heap.size, l.length, none⟩ (.int .u8 (s.toNat : Int))).setCell ⟨w.heap.size, p, none⟩ (.int .u8 (bits .xor .u8 ((x.toNat : Nat) : Int) (((128 : UInt8).toNat : Nat) : Int))))) := ⟨hN4, hb4⟩
 clear HD hset hset3 hN2 hN3 hN4 hb4 hlen2 hlen3 hp
 go_wp2
 go_ret
 exact ⟨_, rfl, HN.out⟩

structure AI (w : World) (F : Nat → Nat) (wr : World) : Prop where
 a : RowAt .u64 73 w.heap.size 25 (stL fun _ => 0) wr
 r : RowAt .u64 73 (w.heap.size + 1) 25 (stL F) wr
 b : Below w.heap.size w wr
 t : Tabs wr
 two : 3 < w.heap.size
theorem AI.drew {w wr : World} {F : Nat → Nat} (h : AI w F wr) : AI w F wr.drew := ⟨h.a.drew, h.r.drew, h.b.drew, h.t.kept (Below.refl _ _).drew, h.two⟩
theorem AI.kept {w wr w2 : World} {F : Nat → Nat} (h : AI w F wr) (hb : Below wr.heap.size wr w2) : AI w F w2 := ⟨h.a.kept hb, h.r.kept hb, stepB h.b hb, h.t.kept hb, h.two⟩
theorem AI.whole {w wr w2 : World} {F G : Nat → Nat} (h : AI w F wr) (hr : RowAt .u64 73 (w.heap.size + 1) 25 (stL G) w2) (hw : Wrote (w.heap.size + 1) wr w2) : AI w G w2 :=
 ⟨h.a.wrote hw (by omega), hr, hw.below _ _ (by omega) h.b, h.t.wrote hw (by have := h.two; omega), h.two⟩

theorem Rd.rest {w : World} {b off n cap : Nat} {l : List UInt8} (h : Rd w (.slice (some ⟨b, off, none⟩) n cap) l) (r : Nat) (hr : r ≤ n) :
  Rd w (.slice (if cap = r then some ⟨b, off, none⟩ else some ⟨b, off + r, none⟩) (n - r) (cap - r)) (l.drop r) := by
 have hn : n = l.length := by
  obtain ⟨a, c, e, _⟩ := id h
  simp only [Value.slice.injEq] at e
  exact e.2.1
 by_cases hc : cap = r
 ·rw [if_pos hc]
  have hcap : n ≤ cap := by
   obtain ⟨a, c, e, h2, _⟩ := id h
   simp only [Value.slice.injEq] at e
   omega
  have h0 : l.drop r = [] := List.drop_eq_nil_of_le (by omega)
  rw [h0, show n - r = 0 by omega, hc, Nat.sub_self]
  exact ⟨_, 0, rfl, by simp, by simp, fun _ => rfl, .inl rfl⟩
 ·rw [if_neg hc]
  have := h.sub r n hr (Nat.le_refl _)
  rwa [List.take_of_length_le (by rw [List.length_drop]; omega)] at this

theorem absorb_zero (R S : Int) (h : ¬ (1 ≤ R ∧ R ≤ 200)) (vb : Value) (w : World) :
  Calls Tryz.prog 43 #[.int .i64 R, .int .u8 S, vb] w fun e w' => e = .returned (arrV fun _ => 0) ∧ Below w.heap.size w w' := by
 have r0 : RowAt .u64 73 w.heap.size 25 (stL fun _ => 0) (w.alloc (.cells #[Value.int .u64 0, .int .u64 0, .int .u64 0, .int .u64 0, .int .u64 0, .int .u64 0, .int .u64 0, .int .u64 0, .int .u64 0, .int .u64 0, .int .u64 0, .int .u64 0, .int .u64 0, .int .u64 0, .int .u64 0, .int .u64 0, .int .u64 0, .int .u64 0, .int .u64 0, .int .u64 0, .int .u64 0, .int .u64 0, .int .u64 0, .int .u64 0, .int .u64 0] 73)) := RowAt.fresh (stL fun _ => 0) zeros25 rfl (stL_length _).symm (stL_ne _) max25
 have r1 : RowAt .u64 73 (w.heap.size + 1) 25 (stL fun _ => 0) ((w.alloc (.cells #[Value.int .u64 0, .int .u64 0, .int .u64 0, .int .u64 0, .int .u64 0, .int .u64 0, .int .u64 0, .int .u64 0, .int .u64 0, .int .u64 0, .int .u64 0, .int .u64 0, .int .u64 0, .int .u64 0, .int .u64 0, .int .u64 0, .int .u64 0, .int .u64 0, .int .u64 0, .int .u64 0, .int .u64 0, .int .u64 0, .int .u64 0, .int .u64 0, .int .u64 0] 73)).alloc (.cells #[Value.int .u64 0, .int .u64 0, .int .u64 0, .int .u64 0, .int .u64 0, .int .u64 0, .int .u64 0, .int .u64 0, .int .u64 0, .int .u64 0, .int .u64 0, .int .u64 0, .int .u64 0, .int .u64 0, .int .u64 0, .int .u64 0, .int .u64 0, .int .u64 0, .int .u64 0, .int .u64 0, .int .u64 0, .int .u64 0, .int .u64 0, .int .u64 0, .int .u64 0] 73)) := RowAt.fresh (stL fun _ => 0) zeros25 (by simp) (stL_length _).symm (stL_ne _) max25
 have hb := stepB (growB (w := w) (.cells #[Value.int .u64 0, .int .u64 0, .int .u64 0, .int .u64 0, .int .u64 0, .int .u64 0, .int .u64 0, .int .u64 0, .int .u64 0, .int .u64 0, .int .u64 0, .int .u64 0, .int .u64 0, .int .u64 0, .int .u64 0, .int .u64 0, .int .u64 0, .int .u64 0, .int .u64 0, .int .u64 0, .int .u64 0, .int .u64 0, .int .u64 0, .int .u64 0, .int .u64 0] 73)) (growB (.cells #[Value.int .u64 0, .int .u64 0, .int .u64 0, .int .u64 0, .int .u64 0, .int .u64 0, .int .u64 0, .int .u64 0, .int .u64 0, .int .u64 0, .int .u64 0, .int .u64 0, .int .u64 0, .int .u64 0, .int .u64 0, .int .u64 0, .int .u64 0, .int .u64 0, .int .u64 0, .int .u64 0, .int .u64 0, .int .u64 0, .int .u64 0, .int .u64 0, .int .u64 0] 73))
 have r2 := r0.kept (growB (.cells #[Value.int .u64 0, .int .u64 0, .int .u64 0, .int .u64 0, .int .u64 0, .int .u64 0, .int .u64 0, .int .u64 0, .int .u64 0, .int .u64 0, .int .u64 0, .int .u64 0, .int .u64 0, .int .u64 0, .int .u64 0, .int .u64 0, .int .u64 0, .int .u64 0, .int .u64 0, .int .u64 0, .int .u64 0, .int .u64 0, .int .u64 0, .int .u64 0, .int .u64 0] 73))
 have h' : (R < 1 ∧ decide (R < 1) = true) ∨ (200 < R ∧ decide (R < 1) = false ∧ decide (200 < R) = true) := by
  by_cases h1 : R < 1
  ·exact .inl ⟨h1, decide_eq_true h1⟩
  ·exact .inr ⟨by omega, decide_eq_false h1, decide_eq_true (by omega)⟩
 rcases h' with ⟨h1, d1⟩ | ⟨h1, d0, d1⟩
 all_goals
  go_enter Tryz.func43, Tryz.ntmps43
  go_wp2_with (first | refine wpList_load_row rfl 73 _ rfl rfl r1 _ Tryz.underlying73 rfl (arrInfo _) ?_ | (refine wpList_store_row rfl 73 _ _ rfl (stL fun _ => 0) rfl rfl r2 (by simp [stL_length]) (arrInfo _) ?_; intro w3 r3 hw))
  refine bodyPost_row (p := 6) (ty := 73) rfl rfl rfl r3 Tryz.underlying73 rfl (arrInfo _) ?_
  exact ⟨rfl, hw.below _ _ (Nat.le_refl _) hb⟩
theorem lb_las (r : Nat) (s : UInt8) (l : List UInt8) (hr : 0 < r) (k : Nat) (hk : k < r) : (lbL r s (l.drop (l.length / r * r))).getD k 0 = lasB r s l k := by
 have h0 := Nat.div_add_mod l.length r
 rw [Nat.mul_comm] at h0
 have e1 : (l.drop (l.length / r * r)).length = l.length % r := by simp; omega
 unfold lbL lasB
 rw [show ((List.range r).map (lbF r s (l.drop (l.length / r * r)))).getD k 0 = lbF r s (l.drop (l.length / r * r)) k by simp [hk]]
 unfold lbF
 rw [e1]
 congr 1
 by_cases h : k < l.length % r
 ·rw [if_pos h, if_pos h]
  simp
 ·rw [if_neg h, if_neg h]

theorem absorb_start (w : World) (cs : Array Value) (hcs : cs = ((stL fun _ => 0).map (Value.int .u64)).toArray) (t : Tabs w) :
  ∃ W, (w.alloc (.cells cs 73)).alloc (.cells cs 73) = W ∧ AI w (fun _ => 0) W := by
 subst hcs
 obtain ⟨W, hW, hI, hs⟩ := two_rows (fun _ => 0) w _ rfl t
 exact ⟨W, hW, ⟨hI.a, hI.r, hI.b, hI.t, hI.two⟩⟩

set_option maxRecDepth 100000 in
set_option maxHeartbeats 2000000 in
theorem absorb_at (r : Nat) (h1 : 1 ≤ r) (h2 : r ≤ 200) (s : UInt8) (S : Int) (hS : S = (s.toNat : Int)) (vb : Value) (l : List UInt8) (w : World) (hr : Rd w vb l) (ht : Tabs w) :
  Calls Tryz.prog 43 #[.int .i64 (r : Int), .int .u8 S, vb] w fun e w' => e = .returned (arrV (tkF (fuN r l (l.length / r)) (lasB r s l) r)) ∧ Below w.heap.size w w' := by
 subst hS
 obtain ⟨a, cap, rfl, h3, h4, h5, -⟩ := id hr
 have hmx := hr.len
 unfold maxLen at h4
 have HR : Hid (Rd w (.slice a l.length cap) l) := hr
 clear hr
 obtain ⟨q, hq⟩ : ∃ q : Nat, q = l.length / r := ⟨_, rfl⟩
 have hqr : q * r ≤ l.length := by rw [hq]; exact Nat.div_mul_le_self _ _
 have hqm : l.length - q * r < r := by
  have e0 := Nat.div_add_mod l.length r
  have e1 := Nat.mod_lt l.length (show 0 < r by omega)
  rw [Nat.mul_comm, ← hq] at e0
  omega
 have hq1 : q ≤ l.length := Nat.le_trans (Nat.le_mul_of_pos_right q (by omega)) hqr
 have q3 : ((l.length : Int)).tdiv (r : Int) = (q : Int) := by rw [Int.tdiv_eq_ediv_of_nonneg (by omega), hq]; rfl
 have q4 : IntKind.i64.wrap (q : Int) = (q : Int) := IntWalk.i64_in _ (by omega)
 have d1 : decide ((r : Int) < 1) = false := decide_eq_false (by omega)
 have d2 : decide ((200 : Int) < (r : Int)) = false := decide_eq_false (by omega)
 have g1 : (1 : Int) ≤ r := by omega
 have g2 : (r : Int) ≤ 200 := by omega
 have g3 : ¬ (r : Int) = 0 := by omega
 rw [← hq]
 have HQ : Hid (q = l.length / r) := hq
 clear hq
 go_enter Tryz.func43, Tryz.ntmps43
 go_wp2
 obtain ⟨W, hW, hI⟩ := absorb_start w _ zeros25 ht
 rw [hW]
 clear hW ht q3 q4 d1 d2
 go_loopw [19, 2] (fun i b wr => ∃ j : Nat, j ≤ q ∧ i = .int .i64 j ∧ Rd w b (l.drop (j * r)) ∧ AI w (fuN r l j) wr) (fun i _ _ => q - (intOf i).toNat)
 case atStart => exact ⟨0, by omega, rfl, by rw [Nat.zero_mul, List.drop_zero]; exact HR.out, hI⟩
 case round =>
  obtain ⟨j, hj, rfl, hR, hI2⟩ := hrel
  clear hI HR
  obtain ⟨a2, cap2, rfl, k2, k3, k4, -⟩ := id hR
  obtain ⟨n, hn⟩ : ∃ n : Nat, n = (l.drop (j * r)).length := ⟨_, rfl⟩
  have hjr : j * r ≤ q * r := Nat.mul_le_mul_right r hj
  have hn' : n = l.length - j * r := by rw [hn, List.length_drop]
  rw [← hn] at hR k2 ⊢
  unfold maxLen at k3
  have HN : Hid (n = (l.drop (j * r)).length) := hn
  have HN' : Hid (n = l.length - j * r) := hn'
  have hnr : n + j * r = l.length := by omega
  have HNR : Hid (n + j * r = l.length) := hnr
  clear hn hn'
  by_cases hlt : j < q
  ·have hd : decide ((j : Int) < (q : Int)) = true := decide_eq_true (by omega)
   have hjq : (j : Int) < q := by omega
   have hjr1 : (j + 1) * r ≤ q * r := Nat.mul_le_mul_right r hlt
   rw [Nat.add_mul, Nat.one_mul] at hjr1
   have hrn : r ≤ n := by omega
   clear hnr
   obtain ⟨b, off, rfl⟩ : ∃ b off, a2 = some ⟨b, off, none⟩ := by
    obtain ⟨b, off, cp, e1, _⟩ := hR.cellAt (i := 0) (by rw [← HN.out]; omega)
    simp only [Value.slice.injEq] at e1
    exact ⟨b, off, e1.1⟩
   have hT := (hR.kept hI2.b).take (n := r) hrn
   have hlen : ((l.drop (j * r)).take r).length = r := by rw [List.length_take, ← HN.out]; omega
   have HT : Hid (arrV (tkF (fuN r l j) (fun k => ((l.drop (j * r)).take r).getD k 0) ((l.drop (j * r)).take r).length) = arrV (fuN r l (j + 1))) := by
    rw [hlen]
    exact arrV_congr (tkF_congr r (fun _ _ => rfl) fun k hk => by simp [hk])
   have hP := hR.rest r hrn
   rw [List.drop_drop, show j * r + r = (j + 1) * r by rw [Nat.add_mul, Nat.one_mul]] at hP
   have HP : Hid _ := hP
   have hrc : (r : Int) ≤ cap2 := by omega
   have hrnI : (r : Int) ≤ n := by omega
   have r1 := hI2.r
   clear hR hP
   go_wp2_with fail
   refine wpE_begin 5 (by kernel_rfl) ?_
   refine wpE_t (i := 0) (oi := ⟨some 21, .load 73 (.tmp 7), 73, "sponge.go:44", #[], none⟩) (v := ?_) ?_ ?_
   rotate_left
   ·intro W hW; refine Eq.trans (exec_load_row 73 _ (by rfl) (by rfl) r1 hW _ Tryz.underlying73 rfl (arrInfo _)) ?_; with_reducible rfl
   try simp only [Act.put, putA, putB, putC]
   refine wpE_t (i := 1) (oi := ⟨some 22, .move (.tmp 2), 26, "sponge.go:44", #[], none⟩) (v := ?_) ?_ ?_
   rotate_left
   ·intro W hW; go_simp <;> with_reducible rfl
   try simp only [Act.put, putA, putB, putC]
   refine wpE_t (i := 2) (oi := ⟨some 23, .move (.tmp 0), 3, "sponge.go:44", #[], none⟩) (v := ?_) ?_ ?_
   rotate_left
   ·intro W hW; go_simp <;> with_reducible rfl
   try simp only [Act.put, putA, putB, putC]
   refine wpE_t (i := 3) (oi := ⟨some 24, .slice 26 (.tmp 22) none (some (.tmp 23)) none, 26, "sponge.go:44", #[⟨1, .data⟩, ⟨2, .data⟩], none⟩) (v := ?_) ?_ ?_
   rotate_left
   ·intro W hW; go_simp <;> with_reducible rfl
   try simp only [Act.put, putA, putB, putC]
   refine wpE_do (i := 4) (o := ⟨some 25, .call { callee := .value (.func 57), args := #[.tmp 21, .tmp 24], argTypes := #[73, 26] }, 73, "sponge.go:44", #[⟨0, .data⟩, ⟨3, .data⟩], none⟩) (by kernel_rfl) rfl (by rfl) fun K hK => ?_
   go_simp
   refine (take_any _ (fuN r l j) (fuN_lt r l j) rfl _ _ (by rw [hlen]; omega) _ hT.drew hI2.drew.t).mono ?_
   rintro e w2 ⟨rfl, hB2⟩
   refine hK.out _ _ hB2 ?_
   clear hK K
   have hI3 := hI2.drew.kept hB2
   have r3 := hI3.r
   rw [HT.out]
   try simp only [Act.put, putA, putB, putC]
   refine wpE_last (o := ⟨none, .store 73 (.tmp 7) (.tmp 25), 0, "sponge.go:44", #[⟨4, .data⟩, ⟨4, .chain⟩, ⟨0, .phase⟩, ⟨1, .phase⟩, ⟨2, .phase⟩, ⟨3, .phase⟩, ⟨4, .phase⟩], none⟩) (by kernel_rfl) (by kernel_rfl) rfl (by rfl) fun K hK => ?_
   refine wp_store_row 73 _ _ (by rfl) (stL (fuN r l (j + 1))) (by rfl) (by rfl) r3 (by simp [stL_length]) (arrInfo _) ?_
   intro w4 r4 hw4
   refine hK.out _ _ ?_
   clear hK K
   try simp only [Act.put, putA, putB, putC]
   have hI4 := hI3.whole r4 hw4
   clear r1 r3 r4 hw4 hI2 hI3 hB2 hT
   by_cases hcr : cap2 = r
   ·have hcrI : (cap2 : Int) = r := by omega
    rw [if_pos hcr, hcr, Nat.sub_self] at HP
    go_wp2
    go_roundw
    case rel => exact ⟨j + 1, by omega, by go_num, HP.out, hI4⟩
    case measure => simp [intOf]; omega
   ·rw [if_neg hcr] at HP
    go_wp2
    go_roundw
    case rel => exact ⟨j + 1, by omega, by go_num, HP.out, hI4⟩
    case measure => simp [intOf]; omega
  ·have hje : j = q := by omega
   have hd : decide ((j : Int) < (q : Int)) = false := decide_eq_false (by omega)
   have hjq : (q : Int) ≤ j := by omega
   have HJ : Hid (j = q) := hje
   have hR1 := hR.kept hI2.b
   have hln : (l.drop (j * r)).length < r := by rw [← HN.out, HN'.out, hje]; exact hqm
   have r1 := hI2.r
   clear hje hR hnr
   go_wp2_with fail
   refine wpE_begin 6 (by kernel_rfl) ?_
   refine wpE_t (i := 0) (oi := ⟨some 30, .load 73 (.tmp 7), 73, "sponge.go:47", #[], none⟩) (v := ?_) ?_ ?_
   rotate_left
   ·intro W hW; refine Eq.trans (exec_load_row 73 _ (by rfl) (by rfl) r1 hW _ Tryz.underlying73 rfl (arrInfo _)) ?_; with_reducible rfl
   try simp only [Act.put, putA, putB, putC]
   refine wpE_t (i := 1) (oi := ⟨some 31, .move (.tmp 0), 3, "sponge.go:47", #[], none⟩) (v := ?_) ?_ ?_
   rotate_left
   ·intro W hW; go_simp <;> with_reducible rfl
   try simp only [Act.put, putA, putB, putC]
   refine wpE_t (i := 2) (oi := ⟨some 32, .move (.tmp 1), 5, "sponge.go:47", #[], none⟩) (v := ?_) ?_ ?_
   rotate_left
   ·intro W hW; go_simp <;> with_reducible rfl
   try simp only [Act.put, putA, putB, putC]
   refine wpE_t (i := 3) (oi := ⟨some 33, .move (.tmp 2), 26, "sponge.go:47", #[], none⟩) (v := ?_) ?_ ?_
   rotate_left
   ·intro W hW; go_simp <;> with_reducible rfl
   try simp only [Act.put, putA, putB, putC]
   refine wpE_do (i := 4) (o := ⟨some 34, .call { callee := .value (.func 58), args := #[.tmp 31, .tmp 32, .tmp 33], argTypes := #[3, 5, 26] }, 26, "sponge.go:47", #[⟨1, .data⟩, ⟨2, .data⟩, ⟨3, .data⟩], none⟩) (by kernel_rfl) rfl (by rfl) fun K hK => ?_
   go_simp
   refine (lastBlock_any r h2 s _ rfl _ (l.drop (j * r)) hln _ hR1.drew).mono ?_
   rintro e w2 ⟨v2, rfl, hN2⟩
   refine hK.out _ _ hN2.2 ?_
   clear hK K
   have hI3 := hI2.drew.kept hN2.2
   have hR2 := hN2.rd
   try simp only [Act.put, putA, putB, putC]
   refine wpE_do (i := 5) (o := ⟨some 35, .call { callee := .value (.func 57), args := #[.tmp 30, .tmp 34], argTypes := #[73, 26] }, 73, "sponge.go:47", #[⟨0, .data⟩, ⟨4, .data⟩, ⟨4, .chain⟩], none⟩) (by kernel_rfl) rfl (by rfl) fun K hK => ?_
   go_simp
   refine (take_any _ (fuN r l j) (fuN_lt r l j) rfl _ _ (by rw [lbL_length]; exact h2) _ hR2 hI3.t).mono ?_
   rintro e w3 ⟨rfl, hB3⟩
   refine hK.out _ _ hB3 ?_
   clear hK K
   have hI4 := hI3.kept hB3
   have r3 := hI4.a
   try simp only [Act.put, putA, putB, putC]
   refine wpE_last (o := ⟨none, .store 73 (.tmp 6) (.tmp 35), 0, "sponge.go:47", #[⟨5, .data⟩, ⟨5, .chain⟩, ⟨0, .phase⟩, ⟨1, .phase⟩, ⟨2, .phase⟩, ⟨3, .phase⟩, ⟨4, .phase⟩, ⟨5, .phase⟩], none⟩) (by kernel_rfl) (by kernel_rfl) rfl (by rfl) fun K hK => ?_
   refine wp_store_row 73 _ _ (by rfl) _ (by rfl) (by rfl) r3 (by simp [stL_length]) (arrInfo _) ?_
   intro w4 r4 hw4
   refine hK.out _ _ ?_
   clear hK K
   try simp only [Act.put, putA, putB, putC]
   have hb4 := hw4.below _ _ (Nat.le_refl _) hI4.b
   go_wp2_with fail
   refine bodyPost_row (p := 6) (ty := 73) rfl rfl rfl r4 Tryz.underlying73 rfl (arrInfo _) ?_
   refine ⟨?_, hb4⟩
   rw [HJ.out, lbL_length]
   refine congrArg Ending.returned (arrV_congr (tkF_congr r (fun _ _ => rfl) fun k hk => ?_))
   rw [HQ.out]
   exact lb_las r s l (by omega) k hk

theorem absorb_any (R S : Int) (s : UInt8) (hS : S = (s.toNat : Int)) (vb : Value) (l : List UInt8) (w : World) (hr : Rd w vb l) (ht : Tabs w) :
  Calls Tryz.prog 43 #[.int .i64 R, .int .u8 S, vb] w fun e w' => e = .returned (arrV (abF R s l)) ∧ Below w.heap.size w w' := by
 by_cases h : 1 ≤ R ∧ R ≤ 200
 ·obtain ⟨r, rfl⟩ : ∃ r : Nat, R = r := ⟨R.toNat, by omega⟩
  have e : arrV (abF (r : Int) s l) = arrV (tkF (fuN r l (l.length / r)) (lasB r s l) r) := by
   unfold abF
   rw [if_pos h, Int.toNat_natCast]
   exact arrV_congr fun k hk => abs_eq r s l (by omega) k hk
  rw [e]
  exact absorb_at r (by omega) (by omega) s S hS vb l w hr ht
 ·have e : abF R s l = fun _ => 0 := by unfold abF; rw [if_neg h]
  rw [e]
  exact absorb_zero R S h vb w
theorem sizeU64 : (Tryz.prog.info? 27).map (·.size) = some 1 := by kernel_rfl
theorem infoU64 : (Tryz.prog.info? 27).map (fun i => (i.zero, i.size, i.bytes)) = some (some (.int .u64 0), 1, 8) := by kernel_rfl

set_option maxHeartbeats 400000 in
theorem lanes_any (w : World) : Calls Tryz.prog 66 #[] w fun e w' => ∃ v, e = .returned v ∧ NewI .u64 27 w v (stL (fun _ => 0)) w' := by
 obtain ⟨i, hi, hz0, hz1, hz2⟩ := info_parts infoU64
 go_enter Tryz.func66, Tryz.ntmps66
 go_wp2_with (at_make; go_must (refine wpList_make_full _ rfl _ _ 69 rfl w.heap.size 27 i _ 1 Tryz.underlying69 hi hz0 hz1 _ _ _ _ 25 rfl rfl rfl rfl (by rw [hz2]; omega) (by unfold maxLen; omega) (Nat.le_refl _) ?_))
 intro w1 hown hgr
 have hN := NewI.made hown hgr
 rw [stL_zero] at hN
 go_wp2
 go_ret
 exact ⟨_, rfl, hN⟩

set_option maxHeartbeats 400000 in
theorem turn_any (x n : Nat) (X B : Int) (hX : X = x) (hB : B = n) (hx : x < 18446744073709551616) (hn : n < 64) (w : World) :
  Calls Tryz.prog 68 #[.int .u64 X, .int .i64 B] w fun e w' => e = .returned (.int .u64 ((turnN x n : Nat) : Int)) ∧ w' = w := by
 subst hX hB
 by_cases h0 : n = 0
 ·subst h0
  have e : turnN x 0 = x := rfl
  rw [e]
  clear e
  go_enter Tryz.func68, Tryz.ntmps68
  go_wp2
  go_ret
  exact ⟨rfl, rfl⟩
 ·have hb : ((n : Int) == 0) = false := by rw [beq_eq_false_iff_ne]; omega
  have h1 : (1 : Int) ≤ n := by omega
  have HE : Hid (turnN x n = x * 2 ^ n % 18446744073709551616 + x / 2 ^ (64 - n)) := by show turnN x n = _; unfold turnN; rw [if_neg h0]; rfl
  have HL : Hid (turnN x n < 18446744073709551616) := turnN_lt x n hx hn
  have HN : Hid (((64 : Int) - (n : Int)).toNat = 64 - n) := by show Int.toNat _ = _; omega
  clear h0
  go_enter Tryz.func68, Tryz.ntmps68
  go_wp2
  go_ret
  refine ⟨retI ?_, rfl⟩
  have h := HL.out
  rw [HE.out] at h
  have e1 : ((x : Int) * 2 ^ n) = ((x * 2 ^ n : Nat) : Int) := by simp
  have e2 : ((x : Int) / 2 ^ (64 - n)) = ((x / 2 ^ (64 - n) : Nat) : Int) := by simp
  rw [HE.out, IntKind.wrap_u64, IntKind.wrap_u64, e1, e2]
  generalize x * 2 ^ n = p at h
  generalize x / 2 ^ (64 - n) = q at h
  omega

set_option maxHeartbeats 400000 in
theorem constants_any (w : World) : Calls Tryz.prog 67 #[] w fun e w' => ∃ v, e = .returned v ∧ NewI .u64 27 w v (kst.map fun x => ((x : Nat) : Int)) w' := by
 go_enter Tryz.func67, Tryz.ntmps67
 go_wp2
 go_ret
 exact ⟨_, rfl, NewI.lit _ (by simp [kst]) (by simp [kst]) rfl (by simp [maxLen, kst])⟩

set_option maxHeartbeats 1000000 in
theorem bytes_any (va : Value) (f : Nat → Nat) (hf : ∀ i, f i < 18446744073709551616) (w : World) (hr : RdI .u64 w va (stL f)) :
  Calls Tryz.prog 51 #[va] w fun e w' => ∃ v, e = .returned v ∧ New 5 w v (bsP f 200) w' := by
 have HF : Hid (∀ i, f i < 18446744073709551616) := hf
 obtain ⟨b, off, cap, rfl, hcap, hmax, hb, _⟩ := hr.cells (stL_ne f)
 rw [stL_length] at hcap
 have e25 := stL_length f
 rw [e25] at hr ⊢
 have HR : Hid (RdI .u64 w (.slice (some ⟨b, off, none⟩) 25 cap) (stL f)) := hr
 clear e25 hf hr
 go_enter Tryz.func51, Tryz.ntmps51
 go_wp2
 go_loopw [3, 4] (fun v i wr => ∃ j : Nat, j ≤ 25 ∧ i = .int .i64 j ∧ New 5 w v (bsP f (8 * j)) wr) (fun _ i _ => 25 - (intOf i).toNat)
 case atStart => exact ⟨0, by omega, rfl, New.start w⟩
 case round =>
  obtain ⟨j, hj, rfl, hN⟩ := hrel
  by_cases hlt : j < 25
  ·have hd : decide ((j : Int) < 25) = true := decide_eq_true (by omega)
   have hjI : (j : Int) < 25 := by omega
   obtain ⟨b', off', cap', ev, _, hc, _⟩ := (HR.out.kept hN.2).cellAt (i := j) (by rw [stL_length]; exact hlt)
   simp only [Value.slice.injEq, Option.some.injEq, Addr.mk.injEq, and_true] at ev
   obtain ⟨⟨rfl, rfl⟩, -, rfl⟩ := ev
   rw [stL_get f j hlt] at hc
   have hq := HF.out j
   have HE : Hid _ := bsP_next f j
   generalize f j = q at hc hq HE
   go_wp2_with fail
   refine (refstore_k q hq 8 8 (by omega) (.inr (.inl ⟨by omega, by omega, by omega⟩)) _).mono ?_
   rintro e w2 ⟨v2, rfl, hN2⟩
   have hN3 := hN.kept hN2.2
   have hR2 := hN2.rd
   clear hN hN2 hc
   go_wp2_with (at_builtin; go_must (refine wpList_append_new (w := w) rfl _ _ 26 rfl 5 Tryz.underlying26 infoU8 _ _ rfl hN3 _ _ rfl hR2 (by simp [bsP_length]; omega) ?_))
   intro v' w3 hN4 _
   have hN5 : New 5 w v' (bsP f (8 * (j + 1))) w3 := by
    rw [← HE.out]
    exact hN4
   clear hN4
   go_wp2
   go_roundw
   case rel => exact ⟨j + 1, by omega, by go_num, hN5⟩
   case measure => simp [intOf]; omega
  ·have hje : j = 25 := by omega
   subst hje
   go_wp2
   go_ret
   exact ⟨_, rfl, hN⟩

set_option maxHeartbeats 1000000 in
theorem state_any (va : Value) (l : List UInt8) (hl : l.length = 200) (w : World) (hr : Rd w va l) :
  Calls Tryz.prog 53 #[va] w fun e w' => ∃ v, e = .returned v ∧ NewI .u64 27 w v (stL (stF l)) w' := by
 obtain ⟨b, off, cap, rfl, hcap, _⟩ := hr.cellAt (i := 0) (by omega)
 rw [hl] at hr hcap ⊢
 have HR : Hid (Rd w (.slice (some ⟨b, off, none⟩) 200 cap) l) := hr
 clear hr
 go_enter Tryz.func53, Tryz.ntmps53
 go_wp2
 go_loopw [3, 4] (fun v i wr => ∃ j : Nat, j ≤ 25 ∧ i = .int .i64 j ∧ NewI .u64 27 w v (stP l j) wr) (fun _ i _ => 25 - (intOf i).toNat)
 case atStart => exact ⟨0, by omega, rfl, NewI.start w⟩
 case round =>
  obtain ⟨j, hj, rfl, hN⟩ := hrel
  by_cases hlt : j < 25
  ·have hd : decide ((j : Int) < 25) = true := decide_eq_true (by omega)
   have hjI : (j : Int) < 25 := by omega
   have hR := (HR.out.kept hN.2).sub (8 * j) (8 * j + 8) (by omega) (by omega)
   rw [show 8 * j + 8 - 8 * j = 8 by omega] at hR
   have w8 : IntKind.i64.wrap (8 * (j : Int)) = 8 * (j : Int) := IntWalk.i64_in _ (by omega)
   have w9 : IntKind.i64.wrap (8 * (j : Int) + 8) = 8 * (j : Int) + 8 := IntWalk.i64_in _ (by omega)
   go_wp2_with fail
   refine (refload_any _ _ _ hR).mono ?_
   rintro e w2 ⟨rfl, rfl⟩
   have ex : leN (List.take 8 (List.take 8 (List.drop (8 * j) l))) = stF l j := by
    rw [List.take_take]
    rfl
   rw [ex]
   have HE : Hid _ := stP_next l j
   generalize stF l j = x at HE
   clear hR ex
   have hL : RdI .u64 (w2.alloc (.cells #[.int .u64 ((x : Nat) : Int)] 27)) (.slice (some ⟨w2.heap.size, 0, none⟩) 1 1) [((x : Nat) : Int)] := (NewI.lit (k := .u64) (w := w2) (e := 27) [((x : Nat) : Int)] rfl rfl rfl (by simp [maxLen])).rd
   go_wp2_with (at_builtin; go_must (refine wpList_append_newI (w := w) rfl _ _ 69 rfl 27 Tryz.underlying69 8 infoU64 _ _ rfl (hN.alloc _) _ _ rfl hL (by simp [stP_length]; omega) (by simp [stP_length]; omega) ?_))
   intro v' w3 hN4 _
   rw [HE.out] at hN4
   clear hN hL
   go_wp2
   go_roundw
   case rel => exact ⟨j + 1, by omega, by go_num, hN4⟩
   case measure => simp [intOf]; omega
  ·have hje : j = 25 := by omega
   subst hje
   rw [stP_done] at hN
   go_wp2
   go_ret
   exact ⟨_, rfl, hN⟩
end Go.Proofs.YtdlmmcilembjgaaGreatDoor
