/- What functions of the program, or of the reference, answer: contracts; several texts in one. -/
import Derived.Test.YtdlmmcilembjgaaGreatDoorGe
import Derived.Test.YtdlmmcilembjgaaGreatDoorGa
import Derived.Test.YtdlmmcilembjgaaGreatDoorBase
import Derived.Test.YtdlmmcilembjgaaGreatDoorGb
import Derived.OwnWalk
import Derived.Test.YtdlmmcilembjgaaGreatDoorGd
import Derived.Shelf.Abstract
import Derived.Deep.DeepCutAuto

namespace Go.Proofs.YtdlmmcilembjgaaGreatDoor
open Go.ChangeShapes Go.WideShapes Go.ChangeAt Go.RowKit
set_option linter.unusedSimpArgs false
set_option linter.unusedVariables false

structure FastI (w : World) (gs caps gk capk : Nat) (l : List Int) (wr : World) : Prop where
 s : RowAt .u64 27 gs caps l wr
 k : RowAt .u64 27 gk capk (kst.map fun x => ((x : Nat) : Int)) wr
 b : Below w.heap.size w wr
theorem FastI.set {w : World} {gs caps gk capk : Nat} {l : List Int} {wr : World} (h : FastI w gs caps gk capk l wr) (hg : w.heap.size ≤ gs) (hne : gs < gk) (j : Nat) (x : Int) :
  FastI w gs caps gk capk (l.set j x) (wr.setCell ⟨gs, j, none⟩ (.int .u64 x)) := ⟨h.s.set j x, h.k.other (by show gs ≠ gk; omega) _, h.b.setCell hg _⟩
theorem FastI.other {w : World} {gs caps gk capk : Nat} {l : List Int} {wr : World} (h : FastI w gs caps gk capk l wr) {p : Addr} (h1 : p.block ≠ gs) (h2 : p.block ≠ gk) (h3 : w.heap.size ≤ p.block) (u : Value) :
  FastI w gs caps gk capk l (wr.setCell p u) := ⟨h.s.other h1 _, h.k.other h2 _, h.b.setCell h3 _⟩
theorem FastI.kept {w : World} {gs caps gk capk : Nat} {l : List Int} {wr w' : World} (h : FastI w gs caps gk capk l wr) (hb : Below wr.heap.size wr w') : FastI w gs caps gk capk l w' :=
 ⟨h.s.kept hb, h.k.kept hb, h.b.trans (hb.mono h.b.size)⟩
theorem FastI.drew {w : World} {gs caps gk capk : Nat} {l : List Int} {wr : World} (h : FastI w gs caps gk capk l wr) : FastI w gs caps gk capk l wr.drew := h.kept (Below.refl _ _).drew

theorem kst_getI (J : Nat) (hJ : J < 24) : (kst.map fun x => ((x : Nat) : Int)).getD J 0 = ((kst.getD J 0 : Nat) : Int) := by
 have h : J < kst.length := by simp [kst]; omega
 simp [h]
theorem cellW {w W : World} {p : Addr} {v : Value} (h : w.cell? p = some v) (hb : Below w.drew.heap.size w.drew W) : W.cell? p = some v := by
 have h1 : w.drew.cell? p = some v := h
 rw [hb.cell (World.block_lt_of_cell? _ _ h1)]
 exact h1

set_option maxRecDepth 100000 in
set_option maxHeartbeats 8000000 in
theorem fast_any (va : Value) (f : Nat → Nat) (hf : ∀ i, f i < 18446744073709551616) (w : World) (hr : RdI .u64 w va (stL f)) :
  Calls Tryz.prog 52 #[va] w fun e w' => ∃ v, e = .returned v ∧ NewI .u64 27 w v (stL (rdsF f 24)) w' := by
 obtain ⟨ti, hti, hz0, hz1, hz2⟩ := info_parts infoU64
 have Hr : Hid (RdI .u64 w va (stL f)) := hr
 have Hf : Hid (∀ i, f i < 18446744073709551616) := hf
 clear hr hf
 go_enter Tryz.func52, Tryz.ntmps52
 go_wp2_with fail
 refine (lanes_any _).mono ?_
 rintro e w1 ⟨v3, rfl, hN1⟩
 go_wp2_with (refine wpList_copy_newI (w := w) rfl _ _ 69 rfl 27 Tryz.underlying69 sizeU64 v3 _ rfl hN1 va _ rfl (Hr.out.kept hN1.2) (by rw [stL_length, stL_length]) (stL_ne _) ?_)
 intro w2 hN2
 clear hN1
 obtain ⟨gs, caps, e3, hgs, hrs⟩ := hN2.row (stL_ne f)
 have hb2 := hN2.2
 clear hN2
 rw [stL_length] at e3
 subst e3
 go_wp2_with fail
 refine (constants_any _).mono ?_
 rintro e w3 ⟨v4, rfl, hN4⟩
 obtain ⟨gk, capk, e4, hgk, hrk⟩ := hN4.row (by simp [kst])
 have hrs3 := hrs.kept hN4.2
 have hlt : gs < gk := Nat.lt_of_lt_of_le hrs.lt hgk
 have hI : FastI w gs caps gk capk (stL f) w3 := ⟨hrs3, hrk, stepB hb2 hN4.2⟩
 rw [show (kst.map fun x => ((x : Nat) : Int)).length = 24 from by simp [kst]] at e4
 subst e4
 clear hrs3 hrk hrs hb2 hN4 hgk
 go_wp2_with fail
 go_loopw [5] (fun i wr => ∃ J : Nat, J ≤ 24 ∧ i = .int .i64 J ∧ FastI w gs caps gk capk (stL (rdsL f J)) wr) (fun i _ => 24 - (intOf i).toNat)
 case atStart => exact ⟨0, by omega, rfl, hI⟩
 case round =>
  obtain ⟨J, hJ, rfl, hI2⟩ := hrel
  clear hI
  by_cases hJ24 : J < 24
  ·have hd1 : decide ((J : Int) < 24) = true := decide_eq_true (by omega)
   have HF : Hid (∀ i, rdsL f J i < 18446744073709551616) := rdsL_lt f Hf.out J hJ
   have HN : Hid (rdsL f (J + 1) = rdL (rdsL f J) J) := rfl
   generalize rdsL f J = F at hI2 HF HN
   go_wp2_with (at_make; go_must (refine wpList_make_full _ rfl _ _ 69 rfl wr.heap.size 27 ti _ 1 Tryz.underlying69 hti hz0 hz1 _ _ _ _ 5 rfl rfl rfl rfl (by rw [hz2]; omega) (by unfold maxLen; omega) (Nat.le_refl _) ?_))
   intro w5 hown hgr
   have hNc := NewI.made hown hgr
   obtain ⟨gc, capc, ec, hgc, hrc⟩ := hNc.row (by simp)
   simp only [Value.slice.injEq, Option.some.injEq, Addr.mk.injEq, and_true, true_and, List.length_replicate] at ec
   obtain ⟨rfl, rfl⟩ := ec
   have hI3 := hI2.kept hNc.2
   have hgsc : gs < wr.heap.size := hI2.s.lt
   have hgkc : gk < wr.heap.size := hI2.k.lt
   have hwc : w.heap.size ≤ wr.heap.size := hI2.b.size
   rw [cP_zero F] at hrc
   generalize wr.heap.size = gc at hrc hgsc hgkc hwc hgc
   clear hown hgr hNc hI2
   go_wp2_with fail
   go_loopw [7] (fun i wr => ∃ X : Nat, X ≤ 5 ∧ i = .int .i64 X ∧ FastI w gs caps gk capk (stL F) wr ∧ RowAt .u64 27 gc 5 (cP F X) wr) (fun i _ => 5 - (intOf i).toNat)
   case atStart => exact ⟨0, by omega, rfl, hI3, hrc⟩
   case round =>
    obtain ⟨X, hX, rfl, hI4, hrc4⟩ := hrel
    clear hI3 hrc
    by_cases hX5 : X < 5
    ·have hcap := hI4.s.cap
     rw [stL_length] at hcap
     have c0 := hI4.s.cell (j := X) (by rw [stL_length]; omega)
     have c1 := hI4.s.cell (j := X + 5) (by rw [stL_length]; omega)
     have c2 := hI4.s.cell (j := X + 10) (by rw [stL_length]; omega)
     have c3 := hI4.s.cell (j := X + 15) (by rw [stL_length]; omega)
     have c4 := hI4.s.cell (j := X + 20) (by rw [stL_length]; omega)
     rw [stL_get F _ (by omega)] at c0 c1 c2 c3 c4
     have cc := hrc4.cell (j := X) (by rw [cP_length]; omega)
     have fc := hrc4.free X
     have HC : Hid _ := colI F HF.out X
     have HS : Hid (∀ x : Int, x = ((colN F X : Nat) : Int) → RowAt .u64 27 gc 5 (cP F (X + 1)) (wr.setCell ⟨gc, X, none⟩ (.int .u64 x))) := by
      intro x hx
      rw [← cP_set, ← hx]
      exact hrc4.set X x
     generalize F X = q0 at c0 HC
     generalize F (X + 5) = q1 at c1 HC
     generalize F (X + 10) = q2 at c2 HC
     generalize F (X + 15) = q3 at c3 HC
     generalize F (X + 20) = q4 at c4 HC
     generalize (cP F X).getD X 0 = q5 at cc
     have hXi : (X : Int) < 5 := by omega
     have i1 : (X : Int) + 5 < 25 := by omega
     have i2 : (X : Int) + 10 < 25 := by omega
     have i3 : (X : Int) + 15 < 25 := by omega
     have i4 : (X : Int) + 20 < 25 := by omega
     have HI4 : Hid _ := hI4
     have x25 : (X : Int) < 25 := by omega
     have w1 : IntKind.i64.wrap ((X : Int) + 5) = (X : Int) + 5 := IntWalk.i64_in _ (by omega)
     have w2 : IntKind.i64.wrap ((X : Int) + 10) = (X : Int) + 10 := IntWalk.i64_in _ (by omega)
     have w3 : IntKind.i64.wrap ((X : Int) + 15) = (X : Int) + 15 := IntWalk.i64_in _ (by omega)
     have w4 : IntKind.i64.wrap ((X : Int) + 20) = (X : Int) + 20 := IntWalk.i64_in _ (by omega)
     have p1 : 0 ≤ (X : Int) + 5 := by omega
     have p2 : 0 ≤ (X : Int) + 10 := by omega
     have p3 : 0 ≤ (X : Int) + 15 := by omega
     have p4 : 0 ≤ (X : Int) + 20 := by omega
     have n1 : ((X : Int) + 5).toNat = X + 5 := by omega
     have n2 : ((X : Int) + 10).toNat = X + 10 := by omega
     have n3 : ((X : Int) + 15).toNat = X + 15 := by omega
     have n4 : ((X : Int) + 20).toNat = X + 20 := by omega
     clear hI4 hrc4
     go_wp2_with fail
     refine wpE_begin 31 (by kernel_rfl) ?_
     refine wpE_t (i := 0) (oi := ⟨some 31, .move (.tmp 6), 69, "ref.go:164", #[], none⟩) (v := ?_) ?_ ?_
     rotate_left
     ·intro W hW; go_simp <;> with_reducible rfl
     try simp only [Act.put, putA, putB, putC]
     refine wpE_t (i := 1) (oi := ⟨some 32, .move (.tmp 7), 3, "ref.go:164", #[], none⟩) (v := ?_) ?_ ?_
     rotate_left
     ·intro W hW; go_simp <;> with_reducible rfl
     try simp only [Act.put, putA, putB, putC]
     refine wpE_t (i := 2) (oi := ⟨some 33, .move (.tmp 3), 69, "ref.go:164", #[], none⟩) (v := ?_) ?_ ?_
     rotate_left
     ·intro W hW; go_simp <;> with_reducible rfl
     try simp only [Act.put, putA, putB, putC]
     refine wpE_t (i := 3) (oi := ⟨some 34, .move (.tmp 7), 3, "ref.go:164", #[], none⟩) (v := ?_) ?_ ?_
     rotate_left
     ·intro W hW; go_simp <;> with_reducible rfl
     try simp only [Act.put, putA, putB, putC]
     refine wpE_t (i := 4) (oi := ⟨some 35, .indexAddr 69 (.tmp 33) (.tmp 34), 0, "ref.go:164", #[⟨2, .data⟩, ⟨3, .data⟩], none⟩) (v := ?_) ?_ ?_
     rotate_left
     ·intro W hW; go_simp <;> with_reducible rfl
     try simp only [Act.put, putA, putB, putC]
     refine wpE_t (i := 5) (oi := ⟨some 36, .load 27 (.tmp 35), 27, "ref.go:164", #[⟨4, .data⟩], none⟩) (v := ?_) ?_ ?_
     rotate_left
     ·intro W hW; have hcW := cellW c0 hW; go_simp <;> with_reducible rfl
     try simp only [Act.put, putA, putB, putC]
     refine wpE_t (i := 6) (oi := ⟨some 37, .move (.tmp 3), 69, "ref.go:164", #[], none⟩) (v := ?_) ?_ ?_
     rotate_left
     ·intro W hW; go_simp <;> with_reducible rfl
     try simp only [Act.put, putA, putB, putC]
     refine wpE_t (i := 7) (oi := ⟨some 38, .move (.tmp 7), 3, "ref.go:164", #[], none⟩) (v := ?_) ?_ ?_
     rotate_left
     ·intro W hW; go_simp <;> with_reducible rfl
     try simp only [Act.put, putA, putB, putC]
     refine wpE_t (i := 8) (oi := ⟨some 39, .binOp .add 3 (.tmp 38) (.const (.int .i64 5)) 3, 3, "ref.go:164", #[⟨7, .data⟩], none⟩) (v := ?_) ?_ ?_
     rotate_left
     ·intro W hW; go_simp <;> with_reducible rfl
     try simp only [Act.put, putA, putB, putC]
     refine wpE_t (i := 9) (oi := ⟨some 40, .indexAddr 69 (.tmp 37) (.tmp 39), 0, "ref.go:164", #[⟨6, .data⟩, ⟨8, .data⟩], none⟩) (v := ?_) ?_ ?_
     rotate_left
     ·intro W hW; go_simp <;> with_reducible rfl
     try simp only [Act.put, putA, putB, putC]
     refine wpE_t (i := 10) (oi := ⟨some 41, .load 27 (.tmp 40), 27, "ref.go:164", #[⟨9, .data⟩], none⟩) (v := ?_) ?_ ?_
     rotate_left
     ·intro W hW; have hcW := cellW c1 hW; go_simp <;> with_reducible rfl
     try simp only [Act.put, putA, putB, putC]
     refine wpE_t (i := 11) (oi := ⟨some 42, .binOp .xor 27 (.tmp 36) (.tmp 41) 27, 27, "ref.go:164", #[⟨5, .data⟩, ⟨10, .data⟩], none⟩) (v := ?_) ?_ ?_
     rotate_left
     ·intro W hW; go_simp <;> with_reducible rfl
     try simp only [Act.put, putA, putB, putC]
     refine wpE_t (i := 12) (oi := ⟨some 43, .move (.tmp 3), 69, "ref.go:164", #[], none⟩) (v := ?_) ?_ ?_
     rotate_left
     ·intro W hW; go_simp <;> with_reducible rfl
     try simp only [Act.put, putA, putB, putC]
     refine wpE_t (i := 13) (oi := ⟨some 44, .move (.tmp 7), 3, "ref.go:164", #[], none⟩) (v := ?_) ?_ ?_
     rotate_left
     ·intro W hW; go_simp <;> with_reducible rfl
     try simp only [Act.put, putA, putB, putC]
     refine wpE_t (i := 14) (oi := ⟨some 45, .binOp .add 3 (.tmp 44) (.const (.int .i64 10)) 3, 3, "ref.go:164", #[⟨13, .data⟩], none⟩) (v := ?_) ?_ ?_
     rotate_left
     ·intro W hW; go_simp <;> with_reducible rfl
     try simp only [Act.put, putA, putB, putC]
     refine wpE_t (i := 15) (oi := ⟨some 46, .indexAddr 69 (.tmp 43) (.tmp 45), 0, "ref.go:164", #[⟨12, .data⟩, ⟨14, .data⟩], none⟩) (v := ?_) ?_ ?_
     rotate_left
     ·intro W hW; go_simp <;> with_reducible rfl
     try simp only [Act.put, putA, putB, putC]
     refine wpE_t (i := 16) (oi := ⟨some 47, .load 27 (.tmp 46), 27, "ref.go:164", #[⟨15, .data⟩], none⟩) (v := ?_) ?_ ?_
     rotate_left
     ·intro W hW; have hcW := cellW c2 hW; go_simp <;> with_reducible rfl
     try simp only [Act.put, putA, putB, putC]
     refine wpE_t (i := 17) (oi := ⟨some 48, .binOp .xor 27 (.tmp 42) (.tmp 47) 27, 27, "ref.go:164", #[⟨11, .data⟩, ⟨16, .data⟩], none⟩) (v := ?_) ?_ ?_
     rotate_left
     ·intro W hW; go_simp <;> with_reducible rfl
     try simp only [Act.put, putA, putB, putC]
     refine wpE_t (i := 18) (oi := ⟨some 49, .move (.tmp 3), 69, "ref.go:164", #[], none⟩) (v := ?_) ?_ ?_
     rotate_left
     ·intro W hW; go_simp <;> with_reducible rfl
     try simp only [Act.put, putA, putB, putC]
     refine wpE_t (i := 19) (oi := ⟨some 50, .move (.tmp 7), 3, "ref.go:164", #[], none⟩) (v := ?_) ?_ ?_
     rotate_left
     ·intro W hW; go_simp <;> with_reducible rfl
     try simp only [Act.put, putA, putB, putC]
     refine wpE_t (i := 20) (oi := ⟨some 51, .binOp .add 3 (.tmp 50) (.const (.int .i64 15)) 3, 3, "ref.go:164", #[⟨19, .data⟩], none⟩) (v := ?_) ?_ ?_
     rotate_left
     ·intro W hW; go_simp <;> with_reducible rfl
     try simp only [Act.put, putA, putB, putC]
     refine wpE_t (i := 21) (oi := ⟨some 52, .indexAddr 69 (.tmp 49) (.tmp 51), 0, "ref.go:164", #[⟨18, .data⟩, ⟨20, .data⟩], none⟩) (v := ?_) ?_ ?_
     rotate_left
     ·intro W hW; go_simp <;> with_reducible rfl
     try simp only [Act.put, putA, putB, putC]
     refine wpE_t (i := 22) (oi := ⟨some 53, .load 27 (.tmp 52), 27, "ref.go:164", #[⟨21, .data⟩], none⟩) (v := ?_) ?_ ?_
     rotate_left
     ·intro W hW; have hcW := cellW c3 hW; go_simp <;> with_reducible rfl
     try simp only [Act.put, putA, putB, putC]
     refine wpE_t (i := 23) (oi := ⟨some 54, .binOp .xor 27 (.tmp 48) (.tmp 53) 27, 27, "ref.go:164", #[⟨17, .data⟩, ⟨22, .data⟩], none⟩) (v := ?_) ?_ ?_
     rotate_left
     ·intro W hW; go_simp <;> with_reducible rfl
     try simp only [Act.put, putA, putB, putC]
     refine wpE_t (i := 24) (oi := ⟨some 55, .move (.tmp 3), 69, "ref.go:164", #[], none⟩) (v := ?_) ?_ ?_
     rotate_left
     ·intro W hW; go_simp <;> with_reducible rfl
     try simp only [Act.put, putA, putB, putC]
     refine wpE_t (i := 25) (oi := ⟨some 56, .move (.tmp 7), 3, "ref.go:164", #[], none⟩) (v := ?_) ?_ ?_
     rotate_left
     ·intro W hW; go_simp <;> with_reducible rfl
     try simp only [Act.put, putA, putB, putC]
     refine wpE_t (i := 26) (oi := ⟨some 57, .binOp .add 3 (.tmp 56) (.const (.int .i64 20)) 3, 3, "ref.go:164", #[⟨25, .data⟩], none⟩) (v := ?_) ?_ ?_
     rotate_left
     ·intro W hW; go_simp <;> with_reducible rfl
     try simp only [Act.put, putA, putB, putC]
     refine wpE_t (i := 27) (oi := ⟨some 58, .indexAddr 69 (.tmp 55) (.tmp 57), 0, "ref.go:164", #[⟨24, .data⟩, ⟨26, .data⟩], none⟩) (v := ?_) ?_ ?_
     rotate_left
     ·intro W hW; go_simp <;> with_reducible rfl
     try simp only [Act.put, putA, putB, putC]
     refine wpE_t (i := 28) (oi := ⟨some 59, .load 27 (.tmp 58), 27, "ref.go:164", #[⟨27, .data⟩], none⟩) (v := ?_) ?_ ?_
     rotate_left
     ·intro W hW; have hcW := cellW c4 hW; go_simp <;> with_reducible rfl
     try simp only [Act.put, putA, putB, putC]
     refine wpE_t (i := 29) (oi := ⟨some 60, .binOp .xor 27 (.tmp 54) (.tmp 59) 27, 27, "ref.go:164", #[⟨23, .data⟩, ⟨28, .data⟩], none⟩) (v := ?_) ?_ ?_
     rotate_left
     ·intro W hW; go_simp <;> with_reducible rfl
     try simp only [Act.put, putA, putB, putC]
     refine wpE_t (i := 30) (oi := ⟨some 61, .indexAddr 69 (.tmp 31) (.tmp 32), 0, "ref.go:164", #[⟨0, .data⟩, ⟨1, .data⟩, ⟨0, .phase⟩, ⟨1, .phase⟩, ⟨2, .phase⟩, ⟨3, .phase⟩, ⟨4, .phase⟩, ⟨5, .phase⟩, ⟨6, .phase⟩, ⟨7, .phase⟩, ⟨8, .phase⟩, ⟨9, .phase⟩, ⟨10, .phase⟩, ⟨11, .phase⟩, ⟨12, .phase⟩, ⟨13, .phase⟩, ⟨14, .phase⟩, ⟨15, .phase⟩, ⟨16, .phase⟩, ⟨17, .phase⟩, ⟨18, .phase⟩, ⟨19, .phase⟩, ⟨20, .phase⟩, ⟨21, .phase⟩, ⟨22, .phase⟩, ⟨23, .phase⟩, ⟨24, .phase⟩, ⟨25, .phase⟩, ⟨26, .phase⟩, ⟨27, .phase⟩, ⟨28, .phase⟩, ⟨29, .phase⟩], none⟩) (v := ?_) ?_ ?_
     rotate_left
     ·intro W hW; go_simp <;> with_reducible rfl
     try simp only [Act.put, putA, putB, putC]
     refine wpE_last (o := ⟨none, .store 27 (.tmp 61) (.tmp 60), 0, "ref.go:164", #[⟨30, .data⟩, ⟨29, .data⟩, ⟨0, .phase⟩, ⟨1, .phase⟩, ⟨2, .phase⟩, ⟨3, .phase⟩, ⟨4, .phase⟩, ⟨5, .phase⟩, ⟨6, .phase⟩, ⟨7, .phase⟩, ⟨8, .phase⟩, ⟨9, .phase⟩, ⟨10, .phase⟩, ⟨11, .phase⟩, ⟨12, .phase⟩, ⟨13, .phase⟩, ⟨14, .phase⟩, ⟨15, .phase⟩, ⟨16, .phase⟩, ⟨17, .phase⟩, ⟨18, .phase⟩, ⟨19, .phase⟩, ⟨20, .phase⟩, ⟨21, .phase⟩, ⟨22, .phase⟩, ⟨23, .phase⟩, ⟨24, .phase⟩, ⟨25, .phase⟩, ⟨26, .phase⟩, ⟨27, .phase⟩, ⟨28, .phase⟩, ⟨29, .phase⟩], none⟩) (by kernel_rfl) (by kernel_rfl) rfl (by rfl) fun K hK => ?_
     go_simp
     refine hK.out _ _ ?_
     clear hK K
     try simp only [Act.put, putA, putB, putC]
     go_wp2
     go_roundw
     case rel => exact ⟨X + 1, by omega, by go_num, (FastI.other HI4.out (p := ⟨gc, X, none⟩) (by show gc ≠ gs; omega) (by show gc ≠ gk; omega) (by show w.heap.size ≤ gc; omega) _).drew, (HS.out _ HC.out).drew⟩
     case measure => simp [intOf]; omega
    ·have hXe : X = 5 := by omega
     rw [hXe] at hrc4
     have hd2 : decide ((X : Int) < 5) = false := decide_eq_false (by omega)
     have hX6 : (5 : Int) ≤ X := by omega
     clear hXe
     rw [upQ_zero F (thL F)] at hI4
     go_wp2_with fail
     go_loopw [8] (fun i wr => ∃ K : Nat, K ≤ 25 ∧ i = .int .i64 K ∧ FastI w gs caps gk capk (stL (upQ F (thL F) K)) wr ∧ RowAt .u64 27 gc 5 (cP F 5) wr) (fun i _ => 25 - (intOf i).toNat)
     case atStart => exact ⟨0, by omega, rfl, hI4, hrc4⟩
     case round =>
      obtain ⟨K, hK, rfl, hI5, hrc5⟩ := hrel
      clear hI4 hrc4
      by_cases hK25 : K < 25
      ·have hcap := hI5.s.cap
       rw [stL_length] at hcap
       obtain ⟨m4, hm4⟩ : ∃ m : Nat, m = (K % 5 + 4) % 5 := ⟨_, rfl⟩
       obtain ⟨m1, hm1⟩ : ∃ m : Nat, m = (K % 5 + 1) % 5 := ⟨_, rfl⟩
       have b4 : m4 < 5 := by omega
       have b1 : m1 < 5 := by omega
       obtain ⟨k5, hk5⟩ : ∃ m : Nat, m = K % 5 := ⟨_, rfl⟩
       have t0 : (K : Int).tmod 5 = (k5 : Int) := by rw [hk5]; exact Int.tmod_eq_emod_of_nonneg (by omega)
       have t4 : ((k5 : Int) + 4).tmod 5 = (m4 : Int) := by rw [Int.tmod_eq_emod_of_nonneg (by omega)]; omega
       have t1 : ((k5 : Int) + 1).tmod 5 = (m1 : Int) := by rw [Int.tmod_eq_emod_of_nonneg (by omega)]; omega
       have u0 : (K : Int) % 5 = (k5 : Int) := by omega
       have u4 : ((k5 : Int) + 4) % 5 = (m4 : Int) := by omega
       have u1 : ((k5 : Int) + 1) % 5 = (m1 : Int) := by omega
       have v4 : IntKind.i64.wrap ((k5 : Int) + 4) = (k5 : Int) + 4 := IntWalk.i64_in _ (by omega)
       have v1 : IntKind.i64.wrap ((k5 : Int) + 1) = (k5 : Int) + 1 := IntWalk.i64_in _ (by omega)
       have c0 := hI5.s.cell (j := K) (by rw [stL_length]; omega)
       have fs := hI5.s.free K
       rw [stL_get _ _ (by omega), upQ_get] at c0
       have c4 := hrc5.cell (j := m4) (by rw [cP_length]; omega)
       have c1 := hrc5.cell (j := m1) (by rw [cP_length]; omega)
       rw [cP_get _ _ b4] at c4
       rw [cP_get _ _ b1] at c1
       have HC : Hid _ := thI F HF.out K
       rw [← hm4, ← hm1] at HC
       have HS : Hid (∀ x : Int, x = ((thL F K : Nat) : Int) → FastI w gs caps gk capk (stL (upQ F (thL F) (K + 1))) (wr.setCell ⟨gs, K, none⟩ (.int .u64 x))) := by
        intro x hx
        rw [← upQ_set, ← hx]
        exact hI5.set hgs hlt K x
       have hcl := colN_lt F HF.out m1
       generalize F K = q0 at c0 HC
       generalize colN F m4 = q4 at c4 HC
       generalize colN F m1 = q1 at c1 HC hcl
       have HRC : Hid _ := hrc5
       have hKi : (K : Int) < 25 := by omega
       have b4' : (m4 : Int) < 5 := by omega
       have b1' : (m1 : Int) < 5 := by omega
       clear hI5 hrc5 hm4 hm1 hk5
       go_wp2_with fail
       refine wpE_begin 24 (by kernel_rfl) ?_
       refine wpE_t (i := 0) (oi := ⟨some 66, .move (.tmp 3), 69, "ref.go:167", #[], none⟩) (v := ?_) ?_ ?_
       rotate_left
       ·intro W hW; go_simp <;> with_reducible rfl
       try simp only [Act.put, putA, putB, putC]
       refine wpE_t (i := 1) (oi := ⟨some 67, .move (.tmp 8), 3, "ref.go:167", #[], none⟩) (v := ?_) ?_ ?_
       rotate_left
       ·intro W hW; go_simp <;> with_reducible rfl
       try simp only [Act.put, putA, putB, putC]
       refine wpE_t (i := 2) (oi := ⟨some 68, .move (.tmp 3), 69, "ref.go:167", #[], none⟩) (v := ?_) ?_ ?_
       rotate_left
       ·intro W hW; go_simp <;> with_reducible rfl
       try simp only [Act.put, putA, putB, putC]
       refine wpE_t (i := 3) (oi := ⟨some 69, .move (.tmp 8), 3, "ref.go:167", #[], none⟩) (v := ?_) ?_ ?_
       rotate_left
       ·intro W hW; go_simp <;> with_reducible rfl
       try simp only [Act.put, putA, putB, putC]
       refine wpE_t (i := 4) (oi := ⟨some 70, .indexAddr 69 (.tmp 68) (.tmp 69), 0, "ref.go:167", #[⟨2, .data⟩, ⟨3, .data⟩], none⟩) (v := ?_) ?_ ?_
       rotate_left
       ·intro W hW; go_simp <;> with_reducible rfl
       try simp only [Act.put, putA, putB, putC]
       refine wpE_t (i := 5) (oi := ⟨some 71, .load 27 (.tmp 70), 27, "ref.go:167", #[⟨4, .data⟩], none⟩) (v := ?_) ?_ ?_
       rotate_left
       ·intro W hW; have hcW := cellW c0 hW; go_simp <;> with_reducible rfl
       try simp only [Act.put, putA, putB, putC]
       refine wpE_t (i := 6) (oi := ⟨some 72, .move (.tmp 6), 69, "ref.go:167", #[], none⟩) (v := ?_) ?_ ?_
       rotate_left
       ·intro W hW; go_simp <;> with_reducible rfl
       try simp only [Act.put, putA, putB, putC]
       refine wpE_t (i := 7) (oi := ⟨some 73, .move (.tmp 8), 3, "ref.go:167", #[], none⟩) (v := ?_) ?_ ?_
       rotate_left
       ·intro W hW; go_simp <;> with_reducible rfl
       try simp only [Act.put, putA, putB, putC]
       refine wpE_t (i := 8) (oi := ⟨some 74, .binOp .rem 3 (.tmp 73) (.const (.int .i64 5)) 3, 3, "ref.go:167", #[⟨7, .data⟩], none⟩) (v := ?_) ?_ ?_
       rotate_left
       ·intro W hW; go_simp <;> with_reducible rfl
       try simp only [Act.put, putA, putB, putC]
       refine wpE_t (i := 9) (oi := ⟨some 75, .binOp .add 3 (.tmp 74) (.const (.int .i64 4)) 3, 3, "ref.go:167", #[⟨8, .data⟩], none⟩) (v := ?_) ?_ ?_
       rotate_left
       ·intro W hW; go_simp <;> with_reducible rfl
       try simp only [Act.put, putA, putB, putC]
       refine wpE_t (i := 10) (oi := ⟨some 76, .binOp .rem 3 (.tmp 75) (.const (.int .i64 5)) 3, 3, "ref.go:167", #[⟨9, .data⟩], none⟩) (v := ?_) ?_ ?_
       rotate_left
       ·intro W hW; go_simp <;> with_reducible rfl
       try simp only [Act.put, putA, putB, putC]
       refine wpE_t (i := 11) (oi := ⟨some 77, .indexAddr 69 (.tmp 72) (.tmp 76), 0, "ref.go:167", #[⟨6, .data⟩, ⟨10, .data⟩], none⟩) (v := ?_) ?_ ?_
       rotate_left
       ·intro W hW; go_simp <;> with_reducible rfl
       try simp only [Act.put, putA, putB, putC]
       refine wpE_t (i := 12) (oi := ⟨some 78, .load 27 (.tmp 77), 27, "ref.go:167", #[⟨11, .data⟩], none⟩) (v := ?_) ?_ ?_
       rotate_left
       ·intro W hW; have hcW := cellW c4 hW; go_simp <;> with_reducible rfl
       try simp only [Act.put, putA, putB, putC]
       refine wpE_t (i := 13) (oi := ⟨some 79, .binOp .xor 27 (.tmp 71) (.tmp 78) 27, 27, "ref.go:167", #[⟨5, .data⟩, ⟨12, .data⟩], none⟩) (v := ?_) ?_ ?_
       rotate_left
       ·intro W hW; go_simp <;> with_reducible rfl
       try simp only [Act.put, putA, putB, putC]
       refine wpE_t (i := 14) (oi := ⟨some 80, .move (.tmp 6), 69, "ref.go:167", #[], none⟩) (v := ?_) ?_ ?_
       rotate_left
       ·intro W hW; go_simp <;> with_reducible rfl
       try simp only [Act.put, putA, putB, putC]
       refine wpE_t (i := 15) (oi := ⟨some 81, .move (.tmp 8), 3, "ref.go:167", #[], none⟩) (v := ?_) ?_ ?_
       rotate_left
       ·intro W hW; go_simp <;> with_reducible rfl
       try simp only [Act.put, putA, putB, putC]
       refine wpE_t (i := 16) (oi := ⟨some 82, .binOp .rem 3 (.tmp 81) (.const (.int .i64 5)) 3, 3, "ref.go:167", #[⟨15, .data⟩], none⟩) (v := ?_) ?_ ?_
       rotate_left
       ·intro W hW; go_simp <;> with_reducible rfl
       try simp only [Act.put, putA, putB, putC]
       refine wpE_t (i := 17) (oi := ⟨some 83, .binOp .add 3 (.tmp 82) (.const (.int .i64 1)) 3, 3, "ref.go:167", #[⟨16, .data⟩], none⟩) (v := ?_) ?_ ?_
       rotate_left
       ·intro W hW; go_simp <;> with_reducible rfl
       try simp only [Act.put, putA, putB, putC]
       refine wpE_t (i := 18) (oi := ⟨some 84, .binOp .rem 3 (.tmp 83) (.const (.int .i64 5)) 3, 3, "ref.go:167", #[⟨17, .data⟩], none⟩) (v := ?_) ?_ ?_
       rotate_left
       ·intro W hW; go_simp <;> with_reducible rfl
       try simp only [Act.put, putA, putB, putC]
       refine wpE_t (i := 19) (oi := ⟨some 85, .indexAddr 69 (.tmp 80) (.tmp 84), 0, "ref.go:167", #[⟨14, .data⟩, ⟨18, .data⟩], none⟩) (v := ?_) ?_ ?_
       rotate_left
       ·intro W hW; go_simp <;> with_reducible rfl
       try simp only [Act.put, putA, putB, putC]
       refine wpE_t (i := 20) (oi := ⟨some 86, .load 27 (.tmp 85), 27, "ref.go:167", #[⟨19, .data⟩], none⟩) (v := ?_) ?_ ?_
       rotate_left
       ·intro W hW; have hcW := cellW c1 hW; go_simp <;> with_reducible rfl
       try simp only [Act.put, putA, putB, putC]
       refine wpE_do (i := 21) (o := ⟨some 87, .call { callee := .value (.func 68), args := #[.tmp 86, .const (.int .i64 1)], argTypes := #[27, 3] }, 27, "ref.go:167", #[⟨20, .data⟩], none⟩) (by kernel_rfl) rfl (by rfl) fun K hK => ?_
       go_simp
       refine (turn_any q1 1 _ _ rfl rfl hcl (by decide) _).mono ?_
       rintro e w' ⟨rfl, rfl⟩
       refine hK.out _ _ (Below.refl _ _) ?_
       clear hK K
       try simp only [Act.put, putA, putB, putC]
       refine wpE_t (i := 22) (oi := ⟨some 88, .binOp .xor 27 (.tmp 79) (.tmp 87) 27, 27, "ref.go:167", #[⟨13, .data⟩, ⟨21, .data⟩], none⟩) (v := ?_) ?_ ?_
       rotate_left
       ·intro W hW; go_simp <;> with_reducible rfl
       try simp only [Act.put, putA, putB, putC]
       refine wpE_t (i := 23) (oi := ⟨some 89, .indexAddr 69 (.tmp 66) (.tmp 67), 0, "ref.go:167", #[⟨0, .data⟩, ⟨1, .data⟩, ⟨0, .phase⟩, ⟨1, .phase⟩, ⟨2, .phase⟩, ⟨3, .phase⟩, ⟨4, .phase⟩, ⟨5, .phase⟩, ⟨6, .phase⟩, ⟨7, .phase⟩, ⟨8, .phase⟩, ⟨9, .phase⟩, ⟨10, .phase⟩, ⟨11, .phase⟩, ⟨12, .phase⟩, ⟨13, .phase⟩, ⟨14, .phase⟩, ⟨15, .phase⟩, ⟨16, .phase⟩, ⟨17, .phase⟩, ⟨18, .phase⟩, ⟨19, .phase⟩, ⟨20, .phase⟩, ⟨21, .phase⟩, ⟨22, .phase⟩], none⟩) (v := ?_) ?_ ?_
       rotate_left
       ·intro W hW; go_simp <;> with_reducible rfl
       try simp only [Act.put, putA, putB, putC]
       refine wpE_last (o := ⟨none, .store 27 (.tmp 89) (.tmp 88), 0, "ref.go:167", #[⟨23, .data⟩, ⟨22, .data⟩, ⟨21, .chain⟩, ⟨0, .phase⟩, ⟨1, .phase⟩, ⟨2, .phase⟩, ⟨3, .phase⟩, ⟨4, .phase⟩, ⟨5, .phase⟩, ⟨6, .phase⟩, ⟨7, .phase⟩, ⟨8, .phase⟩, ⟨9, .phase⟩, ⟨10, .phase⟩, ⟨11, .phase⟩, ⟨12, .phase⟩, ⟨13, .phase⟩, ⟨14, .phase⟩, ⟨15, .phase⟩, ⟨16, .phase⟩, ⟨17, .phase⟩, ⟨18, .phase⟩, ⟨19, .phase⟩, ⟨20, .phase⟩, ⟨21, .phase⟩, ⟨22, .phase⟩], none⟩) (by kernel_rfl) (by kernel_rfl) rfl (by rfl) fun K hK => ?_
       go_simp
       refine hK.out _ _ ?_
       clear hK K
       try simp only [Act.put, putA, putB, putC]
       go_wp2
       go_roundw
       case rel => exact ⟨K + 1, by omega, by go_num, (HS.out _ HC.out).drew, (RowAt.other HRC.out (p := ⟨gs, K, none⟩) (by show gs ≠ gc; omega) _).drew⟩
       case measure => simp [intOf]; omega
      ·have hKe : K = 25 := by omega
       have hd3 : decide ((K : Int) < 25) = false := decide_eq_false (by omega)
       have hK6 : (25 : Int) ≤ K := by omega
       rw [hKe, upQ_done] at hI5
       clear hKe hrc5
       have HG : Hid (∀ i, thL F i < 18446744073709551616) := thL_lt F HF.out
       have HN2 : Hid (rdsL f (J + 1) = ioK (chL (piF (rhL (thL F)))) J) := HN.out
       generalize thL F = G at hI5 HG HN2
       clear HF HN
       go_wp2_with fail
       refine (lanes_any _).mono ?_
       rintro e w6 ⟨v9, rfl, hN9⟩
       obtain ⟨gp, capp, e9, hgp, hrp⟩ := hN9.row (stL_ne _)
       rw [stL_length] at e9
       subst e9
       have hI6 := hI5.kept hN9.2
       have hgsp : gs < gp := Nat.lt_of_lt_of_le hI5.s.lt hgp
       have hgkp : gk < gp := Nat.lt_of_lt_of_le hI5.k.lt hgp
       have hwp : w.heap.size ≤ gp := Nat.le_trans hI5.b.size hgp
       clear hI5 hN9 hgp
       have hcap := hI6.s.cap
       rw [stL_length] at hcap
       have hcapp := hrp.cap
       rw [stL_length] at hcapp
       have c0 := hI6.s.cell (j := 0) (by rw [stL_length]; omega)
       rw [stL_get _ _ (by omega)] at c0
       have cp0 := hrp.cell (j := 0) (by rw [stL_length]; omega)
       have fp := hrp.free 0
       have HS : Hid (RowAt .u64 27 gp capp (stL (ppQ G 0)) (w6.setCell ⟨gp, 0, none⟩ (.int .u64 ((G 0 : Nat) : Int)))) := by
        rw [← ppQ_zero]
        exact hrp.set 0 _
       have HI7 : Hid (FastI w gs caps gk capk (stL G) (w6.setCell ⟨gp, 0, none⟩ (.int .u64 ((G 0 : Nat) : Int)))) := hI6.other (p := ⟨gp, 0, none⟩) (by show gp ≠ gs; omega) (by show gp ≠ gk; omega) hwp _
       generalize G 0 = q at c0 HS HI7
       generalize (stL (fun _ => 0)).getD 0 0 = q2 at cp0
       clear hI6 hrp
       go_wp2_with fail
       clear c0 cp0 fp
       generalize w6.setCell ⟨gp, 0, none⟩ (.int .u64 (q : Int)) = w7 at HS HI7
       go_loopw [10, 11, 12] (fun xv yv i wr => ∃ T x y : Nat, T ≤ 24 ∧ x < 5 ∧ y < 5 ∧ i = .int .i64 T ∧ xv = .int .i64 x ∧ yv = .int .i64 y ∧ Hid (rhXY T = (x, y)) ∧ FastI w gs caps gk capk (stL G) wr ∧ RowAt .u64 27 gp capp (stL (ppQ G T)) wr) (fun _ _ i _ => 24 - (intOf i).toNat)
       case atStart => exact ⟨0, 1, 0, by omega, by omega, by omega, rfl, rfl, rfl, rfl, HI7.out, HS.out⟩
       case round =>
        obtain ⟨T, x, y, hT, hx, hy, rfl, rfl, rfl, HXY, hI8, hrp8⟩ := hrel
        clear HI7 HS
        by_cases hT24 : T < 24
        ·have HP : Hid (rhPos T = x + 5 * y) := by show rhPos T = _; unfold rhPos; rw [HXY.out]
         have HXY2 : Hid (rhXY (T + 1) = (y, (2 * x + 3 * y) % 5)) := by show rhXY (T + 1) = _; unfold rhXY; rw [HXY.out]
         have HP2 : Hid (rhPos (T + 1) = y + 5 * ((2 * x + 3 * y) % 5)) := by show rhPos (T + 1) = _; unfold rhPos; rw [HXY2.out]
         obtain ⟨p, hp⟩ : ∃ p : Nat, p = (T + 1) * (T + 2) := ⟨_, rfl⟩
         have hpb : p ≤ 600 := by
          rw [hp]
          exact Nat.le_trans (Nat.mul_le_mul (show T + 1 ≤ 24 by omega) (show T + 2 ≤ 25 by omega)) (by decide)
         have hpi : ((T : Int) + 1) * ((T : Int) + 2) = (p : Int) := by rw [hp]; simp
         obtain ⟨bb, hbb⟩ : ∃ bb : Nat, bb = p / 2 % 64 := ⟨_, rfl⟩
         have hbl : bb < 64 := by omega
         have HBI : Hid ((p : Int) / 2 % 64 = (bb : Int)) := by show (p : Int) / 2 % 64 = _; omega
         have HBy : Hid (rhBy T = bb) := by rw [hbb, hp]; rfl
         have c0 := hI8.s.cell (j := x + 5 * y) (by rw [stL_length]; omega)
         rw [stL_get _ _ (by omega)] at c0
         have cp := hrp8.cell (j := y + 5 * ((2 * x + 3 * y) % 5)) (by rw [stL_length]; omega)
         have fp := hrp8.free (y + 5 * ((2 * x + 3 * y) % 5))
         have hq := HG.out (x + 5 * y)
         have HS : Hid (∀ z : Int, z = ((turnN (G (x + 5 * y)) bb : Nat) : Int) → RowAt .u64 27 gp capp (stL (ppQ G (T + 1))) (wr.setCell ⟨gp, y + 5 * ((2 * x + 3 * y) % 5), none⟩ (.int .u64 z))) := by
          intro z hz
          rw [← ppQ_set G T hT24, HP.out, HP2.out, HBy.out, ← hz]
          exact hrp8.set _ _
         have HI9 : Hid (∀ u, FastI w gs caps gk capk (stL G) (wr.setCell ⟨gp, y + 5 * ((2 * x + 3 * y) % 5), none⟩ u)) := fun u => hI8.other (p := ⟨gp, y + 5 * ((2 * x + 3 * y) % 5), none⟩) (by show gp ≠ gs; omega) (by show gp ≠ gk; omega) hwp u
         generalize G (x + 5 * y) = q0 at c0 HS hq
         generalize (stL (ppQ G T)).getD (y + 5 * ((2 * x + 3 * y) % 5)) 0 = q3 at cp
         have j1 : (x : Int) + 5 * (y : Int) < 25 := by omega
         have j2 : (y : Int) + 5 * ((2 * (x : Int) + 3 * (y : Int)) % 5) < 25 := by omega
         clear hp hbb hI8 hrp8
         go_wp2_with fail
         refine (turn_any q0 bb _ _ rfl (by have := HBI.out; omega) hq hbl _).mono ?_
         rintro e w' ⟨rfl, rfl⟩
         clear hpi
         go_wp2
         go_roundw
         case rel => exact ⟨T + 1, y, (2 * x + 3 * y) % 5, by omega, by omega, by omega, by go_num, rfl, by go_num, HXY2, HI9.out _, HS.out _ rfl⟩
         case measure => simp [intOf]; omega
        ·have hTe : T = 24 := by omega
         have hd4 : decide ((T : Int) < 24) = false := decide_eq_false (by omega)
         have hT6 : (24 : Int) ≤ T := by omega
         rw [hTe, ppQ_done] at hrp8
         clear hTe HXY
         have HH : Hid (∀ i, piF (rhL G) i < 18446744073709551616) := piF_lt _ (rhL_lt G HG.out)
         generalize piF (rhL G) = H at hrp8 HH HN2
         rw [upQ_zero G (chL H)] at hI8
         go_wp2_with fail
         go_loopw [14] (fun i wr => ∃ K : Nat, K ≤ 25 ∧ i = .int .i64 K ∧ FastI w gs caps gk capk (stL (upQ G (chL H) K)) wr ∧ RowAt .u64 27 gp capp (stL H) wr) (fun i _ => 25 - (intOf i).toNat)
         case atStart => exact ⟨0, by omega, rfl, hI8, hrp8⟩
         case round =>
          obtain ⟨L, hL, rfl, hI9, hrp9⟩ := hrel
          clear hI8 hrp8
          by_cases hL25 : L < 25
          ·have hcap := hI9.s.cap
           rw [stL_length] at hcap
           have hcapp := hrp9.cap
           rw [stL_length] at hcapp
           obtain ⟨k5, hk5⟩ : ∃ m : Nat, m = L % 5 := ⟨_, rfl⟩
           obtain ⟨m2, hm2⟩ : ∃ m : Nat, m = (L % 5 + 2) % 5 := ⟨_, rfl⟩
           obtain ⟨m1, hm1⟩ : ∃ m : Nat, m = (L % 5 + 1) % 5 := ⟨_, rfl⟩
           obtain ⟨r5, hr5⟩ : ∃ m : Nat, m = L - L % 5 := ⟨_, rfl⟩
           have HC : Hid _ := chI H HH.out L
           rw [← hr5, ← hm2, ← hm1] at HC
           have c0 := hrp9.cell (j := L) (by rw [stL_length]; omega)
           have c1 := hrp9.cell (j := r5 + m1) (by rw [stL_length]; omega)
           have c2 := hrp9.cell (j := r5 + m2) (by rw [stL_length]; omega)
           rw [stL_get _ _ (by omega)] at c0 c1 c2
           have cs := hI9.s.cell (j := L) (by rw [stL_length]; omega)
           have fs := hI9.s.free L
           have HS : Hid (∀ z : Int, z = ((chL H L : Nat) : Int) → FastI w gs caps gk capk (stL (upQ G (chL H) (L + 1))) (wr.setCell ⟨gs, L, none⟩ (.int .u64 z))) := by
            intro z hz
            rw [← upQ_set, ← hz]
            exact hI9.set hgs hlt L z
           have HRP : Hid _ := hrp9
           generalize H L = q0 at c0 HC
           generalize H (r5 + m1) = q1 at c1 HC
           generalize H (r5 + m2) = q2 at c2 HC
           generalize (stL (upQ G (chL H) L)).getD L 0 = q3 at cs
           have u0 : (L : Int) % 5 = (k5 : Int) := by omega
           have u2 : ((k5 : Int) + 2) % 5 = (m2 : Int) := by omega
           have u1 : ((k5 : Int) + 1) % 5 = (m1 : Int) := by omega
           have t0 : (L : Int).tmod 5 = (k5 : Int) := by rw [hk5]; exact Int.tmod_eq_emod_of_nonneg (by omega)
           have t1 : ((k5 : Int) + 1).tmod 5 = (m1 : Int) := by rw [Int.tmod_eq_emod_of_nonneg (by omega)]; omega
           have v1 : IntKind.i64.wrap ((k5 : Int) + 1) = (k5 : Int) + 1 := IntWalk.i64_in _ (by omega)
           have r0 : (L : Int) - (k5 : Int) = (r5 : Int) := by omega
           have b1 : (r5 : Int) + (m1 : Int) < 25 := by omega
           have b2 : (r5 : Int) + (m2 : Int) < 25 := by omega
           have b3 : 0 ≤ (r5 : Int) + (m1 : Int) := by omega
           have v2 : IntKind.i64.wrap ((r5 : Int) + (m1 : Int)) = (r5 : Int) + (m1 : Int) := IntWalk.i64_in _ (by omega)
           have n1 : ((r5 : Int) + (m1 : Int)).toNat = r5 + m1 := by omega
           have k5b : k5 < 5 := by omega
           have m1b : m1 < 5 := by omega
           have m2b : m2 < 5 := by omega
           have r5b : r5 ≤ 20 := by omega
           have hLi : (L : Int) < 25 := by omega
           clear hI9 hrp9 hk5 hm2 hm1 hr5
           go_wp2_with fail
           refine wpE_begin 21 (by kernel_rfl) ?_
           refine wpE_t (i := 0) (oi := ⟨some 151, .move (.tmp 3), 69, "ref.go:182", #[], none⟩) (v := ?_) ?_ ?_
           rotate_left
           ·intro W hW; go_simp <;> with_reducible rfl
           try simp only [Act.put, putA, putB, putC]
           refine wpE_t (i := 1) (oi := ⟨some 152, .move (.tmp 14), 3, "ref.go:182", #[], none⟩) (v := ?_) ?_ ?_
           rotate_left
           ·intro W hW; go_simp <;> with_reducible rfl
           try simp only [Act.put, putA, putB, putC]
           refine wpE_t (i := 2) (oi := ⟨some 153, .move (.tmp 9), 69, "ref.go:182", #[], none⟩) (v := ?_) ?_ ?_
           rotate_left
           ·intro W hW; go_simp <;> with_reducible rfl
           try simp only [Act.put, putA, putB, putC]
           refine wpE_t (i := 3) (oi := ⟨some 154, .move (.tmp 14), 3, "ref.go:182", #[], none⟩) (v := ?_) ?_ ?_
           rotate_left
           ·intro W hW; go_simp <;> with_reducible rfl
           try simp only [Act.put, putA, putB, putC]
           refine wpE_t (i := 4) (oi := ⟨some 155, .indexAddr 69 (.tmp 153) (.tmp 154), 0, "ref.go:182", #[⟨2, .data⟩, ⟨3, .data⟩], none⟩) (v := ?_) ?_ ?_
           rotate_left
           ·intro W hW; go_simp <;> with_reducible rfl
           try simp only [Act.put, putA, putB, putC]
           refine wpE_t (i := 5) (oi := ⟨some 156, .load 27 (.tmp 155), 27, "ref.go:182", #[⟨4, .data⟩], none⟩) (v := ?_) ?_ ?_
           rotate_left
           ·intro W hW; have hcW := cellW c0 hW; go_simp <;> with_reducible rfl
           try simp only [Act.put, putA, putB, putC]
           refine wpE_t (i := 6) (oi := ⟨some 157, .move (.tmp 16), 27, "ref.go:182", #[], none⟩) (v := ?_) ?_ ?_
           rotate_left
           ·intro W hW; go_simp <;> with_reducible rfl
           try simp only [Act.put, putA, putB, putC]
           refine wpE_t (i := 7) (oi := ⟨some 158, .move (.tmp 16), 27, "ref.go:182", #[], none⟩) (v := ?_) ?_ ?_
           rotate_left
           ·intro W hW; go_simp <;> with_reducible rfl
           try simp only [Act.put, putA, putB, putC]
           refine wpE_t (i := 8) (oi := ⟨some 159, .move (.tmp 9), 69, "ref.go:182", #[], none⟩) (v := ?_) ?_ ?_
           rotate_left
           ·intro W hW; go_simp <;> with_reducible rfl
           try simp only [Act.put, putA, putB, putC]
           refine wpE_t (i := 9) (oi := ⟨some 160, .move (.tmp 15), 3, "ref.go:182", #[], none⟩) (v := ?_) ?_ ?_
           rotate_left
           ·intro W hW; go_simp <;> with_reducible rfl
           try simp only [Act.put, putA, putB, putC]
           refine wpE_t (i := 10) (oi := ⟨some 161, .move (.tmp 14), 3, "ref.go:182", #[], none⟩) (v := ?_) ?_ ?_
           rotate_left
           ·intro W hW; go_simp <;> with_reducible rfl
           try simp only [Act.put, putA, putB, putC]
           refine wpE_t (i := 11) (oi := ⟨some 162, .binOp .rem 3 (.tmp 161) (.const (.int .i64 5)) 3, 3, "ref.go:182", #[⟨10, .data⟩], none⟩) (v := ?_) ?_ ?_
           rotate_left
           ·intro W hW; go_simp <;> with_reducible rfl
           try simp only [Act.put, putA, putB, putC]
           refine wpE_t (i := 12) (oi := ⟨some 163, .binOp .add 3 (.tmp 162) (.const (.int .i64 1)) 3, 3, "ref.go:182", #[⟨11, .data⟩], none⟩) (v := ?_) ?_ ?_
           rotate_left
           ·intro W hW; go_simp <;> with_reducible rfl
           try simp only [Act.put, putA, putB, putC]
           refine wpE_t (i := 13) (oi := ⟨some 164, .binOp .rem 3 (.tmp 163) (.const (.int .i64 5)) 3, 3, "ref.go:182", #[⟨12, .data⟩], none⟩) (v := ?_) ?_ ?_
           rotate_left
           ·intro W hW; go_simp <;> with_reducible rfl
           try simp only [Act.put, putA, putB, putC]
           refine wpE_t (i := 14) (oi := ⟨some 165, .binOp .add 3 (.tmp 160) (.tmp 164) 3, 3, "ref.go:182", #[⟨9, .data⟩, ⟨13, .data⟩], none⟩) (v := ?_) ?_ ?_
           rotate_left
           ·intro W hW; go_simp <;> with_reducible rfl
           try simp only [Act.put, putA, putB, putC]
           refine wpE_t (i := 15) (oi := ⟨some 166, .indexAddr 69 (.tmp 159) (.tmp 165), 0, "ref.go:182", #[⟨8, .data⟩, ⟨14, .data⟩], none⟩) (v := ?_) ?_ ?_
           rotate_left
           ·intro W hW; go_simp <;> with_reducible rfl
           try simp only [Act.put, putA, putB, putC]
           refine wpE_t (i := 16) (oi := ⟨some 167, .load 27 (.tmp 166), 27, "ref.go:182", #[⟨15, .data⟩], none⟩) (v := ?_) ?_ ?_
           rotate_left
           ·intro W hW; have hcW := cellW c1 hW; go_simp <;> with_reducible rfl
           try simp only [Act.put, putA, putB, putC]
           refine wpE_t (i := 17) (oi := ⟨some 168, .binOp .and 27 (.tmp 158) (.tmp 167) 27, 27, "ref.go:182", #[⟨7, .data⟩, ⟨16, .data⟩], none⟩) (v := ?_) ?_ ?_
           rotate_left
           ·intro W hW; go_simp <;> with_reducible rfl
           try simp only [Act.put, putA, putB, putC]
           refine wpE_t (i := 18) (oi := ⟨some 169, .binOp .sub 27 (.tmp 157) (.tmp 168) 27, 27, "ref.go:182", #[⟨6, .data⟩, ⟨17, .data⟩], none⟩) (v := ?_) ?_ ?_
           rotate_left
           ·intro W hW; go_simp <;> with_reducible rfl
           try simp only [Act.put, putA, putB, putC]
           refine wpE_t (i := 19) (oi := ⟨some 170, .binOp .xor 27 (.tmp 156) (.tmp 169) 27, 27, "ref.go:182", #[⟨5, .data⟩, ⟨18, .data⟩], none⟩) (v := ?_) ?_ ?_
           rotate_left
           ·intro W hW; go_simp <;> with_reducible rfl
           try simp only [Act.put, putA, putB, putC]
           refine wpE_t (i := 20) (oi := ⟨some 171, .indexAddr 69 (.tmp 151) (.tmp 152), 0, "ref.go:182", #[⟨0, .data⟩, ⟨1, .data⟩, ⟨0, .phase⟩, ⟨1, .phase⟩, ⟨2, .phase⟩, ⟨3, .phase⟩, ⟨4, .phase⟩, ⟨5, .phase⟩, ⟨6, .phase⟩, ⟨7, .phase⟩, ⟨8, .phase⟩, ⟨9, .phase⟩, ⟨10, .phase⟩, ⟨11, .phase⟩, ⟨12, .phase⟩, ⟨13, .phase⟩, ⟨14, .phase⟩, ⟨15, .phase⟩, ⟨16, .phase⟩, ⟨17, .phase⟩, ⟨18, .phase⟩, ⟨19, .phase⟩], none⟩) (v := ?_) ?_ ?_
           rotate_left
           ·intro W hW; go_simp <;> with_reducible rfl
           try simp only [Act.put, putA, putB, putC]
           refine wpE_last (o := ⟨none, .store 27 (.tmp 171) (.tmp 170), 0, "ref.go:182", #[⟨20, .data⟩, ⟨19, .data⟩, ⟨0, .phase⟩, ⟨1, .phase⟩, ⟨2, .phase⟩, ⟨3, .phase⟩, ⟨4, .phase⟩, ⟨5, .phase⟩, ⟨6, .phase⟩, ⟨7, .phase⟩, ⟨8, .phase⟩, ⟨9, .phase⟩, ⟨10, .phase⟩, ⟨11, .phase⟩, ⟨12, .phase⟩, ⟨13, .phase⟩, ⟨14, .phase⟩, ⟨15, .phase⟩, ⟨16, .phase⟩, ⟨17, .phase⟩, ⟨18, .phase⟩, ⟨19, .phase⟩], none⟩) (by kernel_rfl) (by kernel_rfl) rfl (by rfl) fun K hK => ?_
           go_simp
           refine hK.out _ _ ?_
           clear hK K
           try simp only [Act.put, putA, putB, putC]
           go_wp2
           go_roundw
           case rel => exact ⟨L + 1, by omega, by go_num, (HS.out _ HC.out).drew, (RowAt.other HRP.out (p := ⟨gs, L, none⟩) (by show gs ≠ gp; omega) _).drew⟩
           case measure => simp [intOf]; omega
          ·have hLe : L = 25 := by omega
           have hd5 : decide ((L : Int) < 25) = false := decide_eq_false (by omega)
           have hL6 : (25 : Int) ≤ L := by omega
           rw [hLe, upQ_done] at hI9
           clear hLe hrp9
           have hcap := hI9.s.cap
           rw [stL_length] at hcap
           have hcapk := hI9.k.cap
           rw [show (kst.map fun x => ((x : Nat) : Int)).length = 24 from by simp [kst]] at hcapk
           have c0 := hI9.s.cell (j := 0) (by rw [stL_length]; omega)
           rw [stL_get _ _ (by omega)] at c0
           have c1 := hI9.k.cell (j := J) (by simp [kst]; omega)
           rw [kst_getI J hJ24] at c1
           have fs := hI9.s.free 0
           have HC : Hid _ := xorI (chL H 0) (kst.getD J 0) (chL_lt H HH.out 0) (kst_lt J hJ24)
           have HS : Hid (∀ z : Int, z = ((chL H 0 ^^^ kst.getD J 0 : Nat) : Int) → FastI w gs caps gk capk (stL (rdsL f (J + 1))) (wr.setCell ⟨gs, 0, none⟩ (.int .u64 z))) := by
            intro z hz
            rw [HN2.out, ← ioKI, ← hz]
            exact hI9.set hgs hlt 0 z
           generalize chL H 0 = q0 at c0 HC HS
           generalize kst.getD J 0 = q1 at c1 HC HS
           have hJi : (J : Int) < 24 := by omega
           clear hI9
           go_wp2_with fail
           refine wpE_begin 10 (by kernel_rfl) ?_
           refine wpE_t (i := 0) (oi := ⟨some 172, .move (.tmp 3), 69, "ref.go:184", #[], none⟩) (v := ?_) ?_ ?_
           rotate_left
           ·intro W hW; go_simp <;> with_reducible rfl
           try simp only [Act.put, putA, putB, putC]
           refine wpE_t (i := 1) (oi := ⟨some 173, .move (.tmp 3), 69, "ref.go:184", #[], none⟩) (v := ?_) ?_ ?_
           rotate_left
           ·intro W hW; go_simp <;> with_reducible rfl
           try simp only [Act.put, putA, putB, putC]
           refine wpE_t (i := 2) (oi := ⟨some 174, .indexAddr 69 (.tmp 173) (.const (.int .i64 0)), 0, "ref.go:184", #[⟨1, .data⟩], none⟩) (v := ?_) ?_ ?_
           rotate_left
           ·intro W hW; go_simp <;> with_reducible rfl
           try simp only [Act.put, putA, putB, putC]
           refine wpE_t (i := 3) (oi := ⟨some 175, .load 27 (.tmp 174), 27, "ref.go:184", #[⟨2, .data⟩], none⟩) (v := ?_) ?_ ?_
           rotate_left
           ·intro W hW; have hcW := cellW c0 hW; go_simp <;> with_reducible rfl
           try simp only [Act.put, putA, putB, putC]
           refine wpE_t (i := 4) (oi := ⟨some 176, .move (.tmp 4), 69, "ref.go:184", #[], none⟩) (v := ?_) ?_ ?_
           rotate_left
           ·intro W hW; go_simp <;> with_reducible rfl
           try simp only [Act.put, putA, putB, putC]
           refine wpE_t (i := 5) (oi := ⟨some 177, .move (.tmp 5), 3, "ref.go:184", #[], none⟩) (v := ?_) ?_ ?_
           rotate_left
           ·intro W hW; go_simp <;> with_reducible rfl
           try simp only [Act.put, putA, putB, putC]
           refine wpE_t (i := 6) (oi := ⟨some 178, .indexAddr 69 (.tmp 176) (.tmp 177), 0, "ref.go:184", #[⟨4, .data⟩, ⟨5, .data⟩], none⟩) (v := ?_) ?_ ?_
           rotate_left
           ·intro W hW; go_simp <;> with_reducible rfl
           try simp only [Act.put, putA, putB, putC]
           refine wpE_t (i := 7) (oi := ⟨some 179, .load 27 (.tmp 178), 27, "ref.go:184", #[⟨6, .data⟩], none⟩) (v := ?_) ?_ ?_
           rotate_left
           ·intro W hW; have hcW := cellW c1 hW; go_simp <;> with_reducible rfl
           try simp only [Act.put, putA, putB, putC]
           refine wpE_t (i := 8) (oi := ⟨some 180, .binOp .xor 27 (.tmp 175) (.tmp 179) 27, 27, "ref.go:184", #[⟨3, .data⟩, ⟨7, .data⟩], none⟩) (v := ?_) ?_ ?_
           rotate_left
           ·intro W hW; go_simp <;> with_reducible rfl
           try simp only [Act.put, putA, putB, putC]
           refine wpE_t (i := 9) (oi := ⟨some 181, .indexAddr 69 (.tmp 172) (.const (.int .i64 0)), 0, "ref.go:184", #[⟨0, .data⟩, ⟨0, .phase⟩, ⟨1, .phase⟩, ⟨2, .phase⟩, ⟨3, .phase⟩, ⟨4, .phase⟩, ⟨5, .phase⟩, ⟨6, .phase⟩, ⟨7, .phase⟩, ⟨8, .phase⟩], none⟩) (v := ?_) ?_ ?_
           rotate_left
           ·intro W hW; go_simp <;> with_reducible rfl
           try simp only [Act.put, putA, putB, putC]
           refine wpE_last (o := ⟨none, .store 27 (.tmp 181) (.tmp 180), 0, "ref.go:184", #[⟨9, .data⟩, ⟨8, .data⟩, ⟨0, .phase⟩, ⟨1, .phase⟩, ⟨2, .phase⟩, ⟨3, .phase⟩, ⟨4, .phase⟩, ⟨5, .phase⟩, ⟨6, .phase⟩, ⟨7, .phase⟩, ⟨8, .phase⟩], none⟩) (by kernel_rfl) (by kernel_rfl) rfl (by rfl) fun K hK => ?_
           go_simp
           refine hK.out _ _ ?_
           clear hK K
           try simp only [Act.put, putA, putB, putC]
           go_wp2
           go_roundw
           case rel => exact ⟨J + 1, by omega, by go_num, (HS.out _ HC.out).drew⟩
           case measure => simp [intOf]; omega
  ·have hJe : J = 24 := by omega
   rw [hJe, rdsL_st f Hf.out] at hI2
   clear hJe
   have hge : (24 : Int) ≤ J := by omega
   have hfin := hI2.s.new hgs hI2.b
   rw [stL_length] at hfin
   go_wp2
   go_ret
   exact ⟨_, rfl, hfin⟩

theorem NewI.past {k : IntKind} {e e' : TypeId} {w w2 w3 : World} {v o : Value} {l : List Int} {lo : List UInt8} (h : NewI k e w v l w2) (ho : New e' w o lo w2) (hne : e ≠ e') (hg : w2.grownBy w3 o.ownBlock) (hb : Below w.heap.size w w3) : NewI k e w v l w3 := by
 refine ⟨⟨h.1.1, h.1.2.imp id ?_⟩, hb⟩
 rintro ⟨g, cap, cur, e1, h2, h3, h4⟩
 refine ⟨g, cap, cur, e1, h2, ?_, h4⟩
 rw [hg.block g (Array.getElem?_eq_some_iff.1 h3).1 ?_, h3]
 intro hc
 rcases ho.1.2 with ⟨rfl, _⟩ | ⟨g', cap', cur', rfl, _, h3', _⟩
 ·cases hc
 ·simp only [Value.ownBlock, Option.some.injEq] at hc
  subst hc
  rw [h3] at h3'
  simp only [Option.some.injEq, Obj.cells.injEq] at h3'
  exact hne h3'.2.1
theorem NewI.from {k : IntKind} {e : TypeId} {w wr w2 : World} {v : Value} {l : List Int} (h : NewI k e wr v l w2) (hb : Below w.heap.size w wr) : NewI k e w v l w2 := by
 refine ⟨⟨h.1.1, h.1.2.imp id ?_⟩, hb.trans (h.2.mono hb.size)⟩
 rintro ⟨g, cap, cur, e1, h2, h3⟩
 exact ⟨g, cap, cur, e1, Nat.le_trans hb.size h2, h3⟩
def AtI (e : TypeId) (w : World) (va : Value) (v : Value) (f : Nat → Nat) (wr : World) : Prop := (v = va ∧ RdI .u64 w va (stL f) ∧ Below w.heap.size w wr) ∨ NewI .u64 e w v (stL f) wr
theorem AtI.rd {e : TypeId} {w wr : World} {va v : Value} {f : Nat → Nat} (h : AtI e w va v f wr) : RdI .u64 wr v (stL f) := by
 rcases h with ⟨rfl, h, hb⟩ | h
 ·exact h.kept hb
 ·exact h.rd
theorem AtI.kept {e : TypeId} {w wr w2 : World} {va v : Value} {f : Nat → Nat} (h : AtI e w va v f wr) (hb : Below wr.heap.size wr w2) : AtI e w va v f w2 := by
 rcases h with ⟨rfl, h, hb0⟩ | h
 ·exact .inl ⟨rfl, h, stepB hb0 hb⟩
 ·exact .inr (h.kept hb)
theorem AtI.past {e e' : TypeId} {w w2 w3 : World} {va v o : Value} {f : Nat → Nat} {lo lo' : List UInt8} {o' : Value} (h : AtI e w va v f w2) (ho : New e' w o lo w2) (hne : e ≠ e') (hg : w2.grownBy w3 o.ownBlock) (ho' : New e' w o' lo' w3) : AtI e w va v f w3 := by
 rcases h with ⟨rfl, h, hb0⟩ | h
 ·exact .inl ⟨rfl, h, ho'.2⟩
 ·exact .inr (h.past ho hne hg ho'.2)

set_option maxHeartbeats 1000000 in
theorem out_any (va : Value) (f : Nat → Nat) (hf : ∀ i, f i < 18446744073709551616) (r n : Nat) (h1 : 0 < r) (h2 : r ≤ 200) (hn : n ≤ 1000000) (w : World) (hr : RdI .u64 w va (stL f)) :
  Calls Tryz.prog 37 #[va, .int .i64 (r : Int), .int .i64 (n : Int)] w fun e w' => ∃ v, e = .returned v ∧ Rd w' v (otL f r n) ∧ Below w.heap.size w w' := by
 have HF : Hid (∀ i, f i < 18446744073709551616) := hf
 clear hf
 go_enter Tryz.func37, Tryz.ntmps37
 go_wp2
 go_loopw [0, 7] (fun v o wr => ∃ m : Nat, m * r ≤ n + r ∧ New 5 w o (otL f r (m * r)) wr ∧ (n ≤ m * r ∨ AtI 27 w va v (itF f m) wr)) (fun _ o _ => n - sLen o)
 case atStart => exact ⟨0, by omega, by rw [Nat.zero_mul]; exact New.start w, .inr (.inl ⟨rfl, hr, Below.refl _ _⟩)⟩
 case round =>
  obtain ⟨m, hm, hN, hR⟩ := hrel
  clear hr
  obtain ⟨a, cap, rfl, hcap, hmax, hnil, -⟩ := hN.rd
  rw [otL_length] at hcap
  have el := otL_length f r (m * r)
  rw [el] at hN ⊢
  clear el
  obtain ⟨L, hL⟩ : ∃ L : Nat, L = m * r := ⟨_, rfl⟩
  have HL : Hid (L = m * r) := hL
  rw [← hL] at hm hN hR hcap ⊢
  clear hL
  by_cases hlt : L < n
  ·have hd : decide ((L : Int) < (n : Int)) = true := decide_eq_true (by omega)
   have hLI : (L : Int) < n := by omega
   have hR2 : AtI 27 w va u0 (itF f m) wr := hR.resolve_left (by omega)
   clear hR
   go_wp2_with fail
   refine (bytes_any _ (itF f m) (itF_lt f HF.out m) _ hR2.rd).mono ?_
   rintro e w2 ⟨v2, rfl, hN2⟩
   obtain ⟨a2, cap2, rfl, hcap2, hmax2, hnil2, -⟩ := hN2.rd
   rw [bsP_length] at hcap2
   have hN3 := hN.kept hN2.2
   have hR3 := hR2.kept hN2.2
   have hT := hN2.rd
   rw [bsP_length] at hT
   replace hT := hT.take (n := r) (by omega)
   rw [bsP_take _ _ _ h2] at hT
   have el := bsP_length (itF f m) 200
   rw [el]
   clear el hN hN2 hR2
   have hrI : (r : Int) ≤ cap2 := by omega
   have HE : Hid _ := otL_next f r m h1
   rw [← HL.out] at HE
   have HB : Hid ((m + 1) * r = L + r) := by
    have := HL.out
    show (m + 1) * r = L + r
    rw [Nat.add_mul, Nat.one_mul, this]
   go_wp2_with (at_builtin; go_must (refine wpList_append_new (w := w) rfl _ _ 26 rfl 5 Tryz.underlying26 infoU8 _ _ rfl hN3 _ _ rfl hT (by simp [otL_length, bsP_length]; omega) ?_))
   intro v' w3 hN4 hgr
   have hR4 := hR3.past hN3 (by decide) hgr hN4
   rw [HE.out, HB.out] at hN4
   clear hN3 hR3 hT hgr HE
   obtain ⟨a4, cap4, rfl, hcap4, hmax4, hnil4, -⟩ := hN4.rd
   rw [otL_length] at hcap4
   have el := otL_length f r (L + r)
   rw [el] at hN4 ⊢
   clear el
   by_cases hlt2 : L + r < n
   ·have hd2 : decide (((L : Int) + (r : Int)) < (n : Int)) = true := decide_eq_true (by omega)
    have hd3 : decide (((L + r : Nat) : Int) < (n : Int)) = true := decide_eq_true (by omega)
    have hLI2 : (L : Int) + (r : Int) < n := by omega
    go_wp2_with fail
    refine (fast_any _ (itF f m) (itF_lt f HF.out m) _ hR4.rd).mono ?_
    rintro e w5 ⟨v5, rfl, hN5⟩
    have hN6 := hN4.kept hN5.2
    have hR6 : AtI 27 w va v5 (itF f (m + 1)) w5 := .inr (hN5.from hN4.2)
    clear hN5 hN4 hR4
    go_wp2
    go_roundw
    case rel => exact ⟨m + 1, by rw [HB.out]; omega, by rw [HB.out]; exact hN6, .inr hR6⟩
    case measure => simp [sLen]; omega
   ·have hd2 : decide (((L : Int) + (r : Int)) < (n : Int)) = false := decide_eq_false (by omega)
    have hd3 : decide (((L + r : Nat) : Int) < (n : Int)) = false := decide_eq_false (by omega)
    have hLI2 : (n : Int) ≤ (L : Int) + (r : Int) := by omega
    go_wp2
    go_roundw
    case rel => exact ⟨m + 1, by rw [HB.out]; omega, by rw [HB.out]; exact hN4, .inl (by rw [HB.out]; omega)⟩
    case measure => simp [sLen]; omega
  ·have hd : decide ((L : Int) < (n : Int)) = false := decide_eq_false (by omega)
   have hLI : (n : Int) ≤ L := by omega
   have hT := hN.rd.take (n := n) (by omega)
   rw [otL_take _ _ _ _ (by omega)] at hT
   have hb := hN.2
   have hnc : (n : Int) ≤ cap := by omega
   clear hN hR
   cases a with
   | none =>
    have h0 := hnil rfl
    subst h0
    have hL0 : L = 0 := by omega
    have hn0 : n = 0 := by omega
    subst hL0 hn0
    go_wp2
    go_ret
    exact ⟨_, rfl, hT, hb⟩
   | some p =>
    go_wp2
    go_ret
    exact ⟨_, rfl, hT, hb⟩
def bI (l : List UInt8) : List Int := l.map fun x => (x.toNat : Int)
theorem bI_length (l : List UInt8) : (bI l).length = l.length := by simp [bI]
theorem bI_map (l : List UInt8) : (bI l).map (Value.int .u8) = l.map bv := by simp [bI, bv, Function.comp_def]
theorem bI_get (l : List UInt8) (j : Nat) (h : j < l.length) : (bI l).getD j 0 = ((l.getD j 0).toNat : Int) := by simp [bI, h]
theorem bI_set (l : List UInt8) (j : Nat) (x : UInt8) : (bI l).set j (x.toNat : Int) = bI (l.set j x) := by simp [bI, List.map_set]
theorem New.toI {e : TypeId} {w w' : World} {v : Value} {l : List UInt8} (h : New e w v l w') : NewI .u8 e w v (bI l) w' := by
 refine ⟨?_, h.2⟩
 rw [bI_map, bI_length]
 exact h.1
theorem NewI.toB {e : TypeId} {w w' : World} {v : Value} {l : List UInt8} (h : NewI .u8 e w v (bI l) w') : New e w v l w' := by
 refine ⟨?_, h.2⟩
 have := h.1
 rw [bI_map, bI_length] at this
 exact this

set_option maxHeartbeats 1000000 in
theorem absorb_out (R S : Int) (hR : R < 1 ∨ 200 < R) (vb : Value) (w : World) :
  Calls Tryz.prog 38 #[.int .i64 R, .int .u8 S, vb] w fun e w' => ∃ v, e = .returned v ∧ RdI .u64 w' v (stL fun _ => 0) ∧ Below w.heap.size w w' := by
 obtain ⟨i, hi, hz0, hz1, hz2⟩ := info_parts infoU64
 rcases hR with h | h
 ·have hd : decide (R < 1) = true := decide_eq_true h
  go_enter Tryz.func38, Tryz.ntmps38
  go_wp2_with (at_make; go_must (refine wpList_make_full _ rfl _ _ 69 rfl w.heap.size 27 i _ 1 Tryz.underlying69 hi hz0 hz1 _ _ _ _ 25 rfl rfl rfl rfl (by rw [hz2]; omega) (by unfold maxLen; omega) (Nat.le_refl _) ?_))
  intro w1 hown hgr
  have hN := NewI.made hown hgr
  rw [stL_zero] at hN
  clear hown hgr
  go_wp2
  go_ret
  exact ⟨_, rfl, hN.rd, hN.2⟩
 ·have hd : decide (R < 1) = false := decide_eq_false (by omega)
  have hd2 : decide (200 < R) = true := decide_eq_true h
  have h1 : ¬ R < 1 := by omega
  go_enter Tryz.func38, Tryz.ntmps38
  go_wp2_with (at_make; go_must (refine wpList_make_full _ rfl _ _ 69 rfl w.heap.size 27 i _ 1 Tryz.underlying69 hi hz0 hz1 _ _ _ _ 25 rfl rfl rfl rfl (by rw [hz2]; omega) (by unfold maxLen; omega) (Nat.le_refl _) ?_))
  intro w1 hown hgr
  have hN := NewI.made hown hgr
  rw [stL_zero] at hN
  clear hown hgr
  go_wp2
  go_ret
  exact ⟨_, rfl, hN.rd, hN.2⟩

theorem AtI.b {e : TypeId} {w wr : World} {va v : Value} {f : Nat → Nat} (h : AtI e w va v f wr) : Below w.heap.size w wr := by
 rcases h with ⟨rfl, _, hb⟩ | h
 ·exact hb
 ·exact h.2
theorem cellY {w W : World} {p : Addr} {v : Value} (h : w.cell? p = some v) (hb : Below w.drew.heap.size w.drew W) : W.cell? p = some v := by
 have h1 : w.drew.cell? p = some v := h
 rw [hb.cell (World.block_lt_of_cell? _ _ h1)]
 exact h1
set_option maxRecDepth 100000 in
set_option maxHeartbeats 4000000 in
theorem absorb_in (r : Nat) (h1 : 0 < r) (h2 : r ≤ 200) (s : UInt8) (vb : Value) (l : List UInt8) (hl : l.length ≤ 1000000) (w : World) (hr : Rd w vb l) :
  Calls Tryz.prog 38 #[.int .i64 (r : Int), .int .u8 (s.toNat : Int), vb] w fun e w' => ∃ v, e = .returned v ∧ RdI .u64 w' v (stL (abN r (padL r s l) (blN r l))) ∧ Below w.heap.size w w' := by
 obtain ⟨i, hi, hz0, hz1, hz2⟩ := info_parts infoU64
 have hd1 : decide ((r : Int) < 1) = false := decide_eq_false (by omega)
 have hd2 : decide ((200 : Int) < (r : Int)) = false := decide_eq_false (by omega)
 have hr1 : ¬ (r : Int) < 1 := by omega
 have hr2 : ¬ (200 : Int) < (r : Int) := by omega
 have hr0 : ((r : Int) == 0) = false := by simp; omega
 have hrp : (0 : Int) < (r : Int) := by omega
 go_enter Tryz.func38, Tryz.ntmps38
 go_wp2_with (at_make; go_must (refine wpList_make_full _ rfl _ _ 69 rfl w.heap.size 27 i _ 1 Tryz.underlying69 hi hz0 hz1 _ _ _ _ 25 rfl rfl rfl rfl (by rw [hz2]; omega) (by unfold maxLen; omega) (Nat.le_refl _) ?_))
 intro w1 hown hgr
 have hA := NewI.made hown hgr
 rw [stL_zero] at hA
 have hr1' := hr.kept hA.2
 clear hown hgr hi hz0 hz1 hz2 hr
 go_wp2_with (at_builtin; go_must (refine wpList_append_new (w := w1) rfl _ _ 26 rfl 5 Tryz.underlying26 infoU8 _ _ rfl (New.start w1) _ _ rfl hr1' (by simp; omega) ?_))
 intro v2 w2 hN2 _
 clear hr1'
 go_wp2_with (at_builtin; go_must (refine wpList_append_new (w := w1) rfl _ _ 26 rfl 5 Tryz.underlying26 infoU8 _ _ rfl (hN2.alloc _) _ _ rfl (Rd.lit1 s rfl) (by simp; omega) ?_))
 intro v3 w3 hN3 _
 clear hN2
 have hN4 : New 5 w1 v3 (pdP s l 0) w3 := by simpa [pdP] using hN3
 clear hN3
 go_wp2
 go_loopw [8] (fun v wr => ∃ z : Nat, z ≤ zN r l.length ∧ New 5 w1 v (pdP s l z) wr) (fun v _ => l.length + 1 + zN r l.length - sLen v)
 case atStart => exact ⟨0, by omega, hN4⟩
 case round =>
  obtain ⟨z, hz, hN5⟩ := hrel
  clear hN4
  obtain ⟨a, cap, rfl, hcap, hmax, hnil, -⟩ := hN5.rd
  have el := pdP_length s l z
  rw [el] at hcap hN5 ⊢
  clear el
  have hzr := zN_lt r l.length h1
  obtain ⟨L, hL⟩ : ∃ L : Nat, L = l.length + 1 + z := ⟨_, rfl⟩
  have HL : Hid (L = l.length + 1 + z) := hL
  obtain ⟨q, hq⟩ : ∃ q : Nat, q = L % r := ⟨_, rfl⟩
  have t1 : (L : Int).tmod (r : Int) = (q : Int) := by rw [hq]; exact Int.tmod_eq_emod_of_nonneg (by omega)
  have t2 : (L : Int) % (r : Int) = (q : Int) := by rw [hq]; simp
  rw [← hL] at hcap hN5 ⊢
  by_cases hlt : z < zN r l.length
  ·have hq0 : q ≠ 0 := by
    rw [hq, hL]
    exact zN_least r l.length z h1 hlt
   have hd : (((q : Nat) : Int) != 0) = true := by simp; omega
   have hqi : ((q : Int)) ≠ 0 := by omega
   clear hq hL
   go_wp2_with (at_builtin; go_must (refine wpList_append_new (w := w1) rfl _ _ 26 rfl 5 Tryz.underlying26 infoU8 _ _ rfl (hN5.alloc _) _ _ rfl (Rd.lit1 0 rfl) (by simp [pdP_length]; have := HL.out; omega) ?_))
   intro v6 w6 hN6 _
   rw [pdP_next] at hN6
   obtain ⟨a6, cap6, rfl, hcap6, hmax6, hnil6, -⟩ := hN6.rd
   have el := pdP_length s l (z + 1)
   rw [el] at hN6 ⊢
   clear el hcap6 hmax6 hnil6
   have hLe := HL.out
   go_wp2
   go_roundw
   case rel => exact ⟨z + 1, by omega, hN6⟩
   case measure => simp [sLen]; omega
  ·have hze : z = zN r l.length := by omega
   have hq0 : q = 0 := by
    rw [hq, hL, hze]
    exact zN_full r l.length h1
   have hd : (((q : Nat) : Int) != 0) = false := by rw [hq0]; rfl
   have hqi : ((q : Int)) = 0 := by omega
   obtain ⟨J, hJ⟩ : ∃ J : Nat, J = l.length + z := ⟨_, rfl⟩
   have hLJ : L = J + 1 := by omega
   have hne : pdP s l z ≠ [] := by
    intro h
    have := pdP_length s l z
    rw [h] at this
    simp at this
    omega
   obtain ⟨g, cap', ev, hg, hrow⟩ := hN5.toI.row (by intro h; apply hne; simpa [bI] using h)
   simp only [Value.slice.injEq] at ev
   obtain ⟨rfl, -, rfl⟩ := ev
   have hbw := hN5.2
   have hc := hrow.cell (j := J) (by rw [bI_length, pdP_length]; omega)
   have hcf := hrow.free J
   rw [bI_get _ _ (by rw [pdP_length]; omega)] at hc
   have HX : Hid _ := byte_xor ((pdP s l z).getD J 0) 128
   have HW : Hid (∀ x : Int, x = (((pdP s l z).getD J 0 ^^^ 128).toNat : Int) → RowAt .u8 5 g cap (bI (padL r s l)) (wr.setCell ⟨g, J, none⟩ (.int .u8 x)) ∧ Below w1.heap.size w1 (wr.setCell ⟨g, J, none⟩ (.int .u8 x))) := by
    intro x hx
    have h3 := hrow.set J x
    rw [hx, bI_set] at h3
    have ep : (pdP s l z).set J ((pdP s l z).getD J 0 ^^^ 128) = padL r s l := by
     unfold padL
     rw [← hze, ← hJ]
    rw [ep, ← hx] at h3
    exact ⟨h3, hbw.setCell hg _⟩
   generalize (pdP s l z).getD J 0 = x at hc HX HW
   have wL : IntKind.i64.wrap ((L : Int) - 1) = (J : Int) := by rw [hLJ]; rw [show (((J + 1 : Nat) : Int) - 1) = (J : Int) by omega]; exact IntWalk.i64_in _ (by omega)
   have lJ : (J : Int) < (L : Int) := by omega
   have hJb : J ≤ 1000300 := by omega
   have hLb : L ≤ 1000300 := by omega
   have HPL : Hid ((padL r s l).length = L) := by
    show (padL r s l).length = L
    rw [padL_length, hL, hze]
   have HB : Hid (blN r l * r = L) := by
    show blN r l * r = L
    rw [blN_mul r l h1, hL, hze]
   clear hN5 hrow hne hq hL hze hq0 hJ hlt hbw hnil hz hzr hLJ
   go_wp2
   obtain ⟨hP, hbW⟩ := HW.out _ HX.out
   have e128 : (((128 : UInt8).toNat : Nat) : Int) = 128 := rfl
   rw [e128] at hP hbW
   generalize wr.setCell ⟨g, J, none⟩ (.int .u8 (bits .xor .u8 (x.toNat : Int) 128)) = W2 at hP hbW
   clear HW HX hc hcf wL lJ e128
   have hA2 := hA.rd.kept hbW
   have hb0 := stepB hA.2 hbW
   have hPr := hP.rd
   rw [bI_length, HPL.out] at hPr
   obtain ⟨P, hPP⟩ : ∃ P, P = padL r s l := ⟨_, rfl⟩
   rw [← hPP] at HPL hP hPr
   have HPP : Hid (P = padL r s l) := hPP
   clear hPP
   have HPr : Hid (Rd W2 (.slice (some ⟨g, 0, none⟩) L cap) P) := by
    have h3 : NewI .u8 5 w1 (.slice (some ⟨g, 0, none⟩) (bI P).length cap) (bI P) W2 := hP.new hg hbW
    have h4 := h3.toB.rd
    rw [bI_length, HPL.out] at h4
    exact h4
   clear hP hPr hbW
   obtain ⟨nb, hnb⟩ : ∃ nb, nb = blN r l := ⟨_, rfl⟩
   rw [← hnb] at HB
   have HNB : Hid (nb = blN r l) := hnb
   clear hnb
   go_loopw [7, 9] (fun v i wr2 => ∃ b I : Nat, Hid (I = b * r) ∧ b ≤ nb ∧ i = .int .i64 I ∧ AtI 27 W2 (.slice (some ⟨w.heap.size, 0, none⟩) 25 25) v (abN r P b) wr2) (fun _ i _ => L - (intOf i).toNat)
   case atStart => exact ⟨0, 0, by simp [Hid], by omega, rfl, .inl ⟨rfl, hA2, Below.refl _ _⟩⟩
   case round =>
    obtain ⟨b, I, HI, hb, rfl, hT⟩ := hrel
    clear hA2
    have hIL : I < L → I + r ≤ L ∧ b < nb := by
     intro h
     have e1 := HI.out
     have e2 := HB.out
     have h3 : b < nb := by
      rcases Nat.lt_or_ge b nb with h4 | h4
      ·exact h4
      ·have := Nat.mul_le_mul_right r h4
       omega
     have h5 := Nat.mul_le_mul_right r (show b + 1 ≤ nb from h3)
     rw [Nat.add_mul, Nat.one_mul] at h5
     exact ⟨by omega, h3⟩
    by_cases hlt : I < L
    ·obtain ⟨hIr, hbn⟩ := hIL hlt
     clear hIL
     have hd5 : decide ((I : Int) < (L : Int)) = true := decide_eq_true (by omega)
     have hII : (I : Int) < (L : Int) := by omega
     go_wp2_with fail
     refine (bytes_any _ (abN r P b) (abN_lt r P b) _ hT.rd).mono ?_
     rintro e w5 ⟨v5, rfl, hN5⟩
     have hbT := hT.b
     clear hT
     have es := bsP_length (abN r P b) 200
     obtain ⟨g5, cap5, ev5, hg5, hrow5⟩ := hN5.toI.row (by intro h; have h6 := congrArg List.length h; rw [bI_length, es] at h6; simp at h6)
     rw [bI_length, es] at ev5
     subst ev5
     have hcap5 := hrow5.cap
     rw [bI_length, es] at hcap5
     have hb5 := hN5.2
     rw [xhP_zero _ P I es] at hrow5
     clear hN5
     obtain ⟨V, rfl⟩ : ∃ V, V = wr := ⟨_, rfl⟩
     go_wp2
     go_loopw [11] (fun k wr3 => ∃ K : Nat, K ≤ r ∧ k = .int .i64 K ∧ RowAt .u8 5 g5 cap5 (bI (xhP (bsP (abN r P b) 200) P I K)) wr3 ∧ Below V.heap.size V wr3) (fun k _ => r - (intOf k).toNat)
     case atStart => exact ⟨0, by omega, rfl, hrow5, hb5⟩
     case round =>
      obtain ⟨K, hK, rfl, hrow6, hb6⟩ := hrel
      clear hrow5 hb5
      by_cases hKlt : K < r
      ·have hd6 : decide ((K : Int) < (r : Int)) = true := decide_eq_true (by omega)
       have hKI : (K : Int) < (r : Int) := by omega
       have hK2 : (K : Int) < 200 := by omega
       have cs := hrow6.cell (j := K) (by rw [bI_length, xhP_length]; omega)
       have fs := hrow6.free K
       rw [bI_get _ _ (by rw [xhP_length]; omega), xhP_get _ _ _ _ (by omega)] at cs
       obtain ⟨bb, off, cc, ev, _, cp, _⟩ := (HPr.out.kept (stepB hbT hb6)).cellAt (i := I + K) (by rw [HPL.out]; omega)
       simp only [Value.slice.injEq, Option.some.injEq, Addr.mk.injEq, and_true] at ev
       obtain ⟨⟨rfl, rfl⟩, -, rfl⟩ := ev
       rw [Nat.zero_add] at cp
       have HX : Hid _ := byte_xor ((bsP (abN r P b) 200).getD K 0) (P.getD (I + K) 0)
       have HS : Hid (∀ x : Int, x = (((bsP (abN r P b) 200).getD K 0 ^^^ P.getD (I + K) 0).toNat : Int) → RowAt .u8 5 g5 cap5 (bI (xhP (bsP (abN r P b) 200) P I (K + 1))) (wr.setCell ⟨g5, K, none⟩ (.int .u8 x)) ∧ Below V.heap.size V (wr.setCell ⟨g5, K, none⟩ (.int .u8 x))) := by
        intro x hx
        refine ⟨?_, hb6.setCell (p := ⟨g5, K, none⟩) hg5 _⟩
        have h7 := hrow6.set K x
        rw [hx, bI_set, xhP_set, ← hx] at h7
        exact h7
       generalize (bsP (abN r P b) 200).getD K 0 = y1 at cs HX HS
       generalize P.getD (I + K) 0 = y2 at cp HX HS
       have wI : IntKind.i64.wrap ((I : Int) + (K : Int)) = (I : Int) + (K : Int) := IntWalk.i64_in _ (by omega)
       have nI : ((I : Int) + (K : Int)).toNat = I + K := by omega
       have pI : 0 ≤ (I : Int) + (K : Int) := by omega
       have lI : (I : Int) + (K : Int) < (L : Int) := by omega
       clear hrow6 hb6
       go_wp2_with fail
       refine wpE_begin 14 (by kernel_rfl) ?_
       refine wpE_t (i := 0) (oi := ⟨some 61, .move (.tmp 10), 26, "ref.go:43", #[], none⟩) (v := ?_) ?_ ?_
       rotate_left
       ·intro W hW; go_simp <;> with_reducible rfl
       try simp only [Act.put, putA, putB, putC]
       refine wpE_t (i := 1) (oi := ⟨some 62, .move (.tmp 11), 3, "ref.go:43", #[], none⟩) (v := ?_) ?_ ?_
       rotate_left
       ·intro W hW; go_simp <;> with_reducible rfl
       try simp only [Act.put, putA, putB, putC]
       refine wpE_t (i := 2) (oi := ⟨some 63, .move (.tmp 10), 26, "ref.go:43", #[], none⟩) (v := ?_) ?_ ?_
       rotate_left
       ·intro W hW; go_simp <;> with_reducible rfl
       try simp only [Act.put, putA, putB, putC]
       refine wpE_t (i := 3) (oi := ⟨some 64, .move (.tmp 11), 3, "ref.go:43", #[], none⟩) (v := ?_) ?_ ?_
       rotate_left
       ·intro W hW; go_simp <;> with_reducible rfl
       try simp only [Act.put, putA, putB, putC]
       refine wpE_t (i := 4) (oi := ⟨some 65, .indexAddr 26 (.tmp 63) (.tmp 64), 0, "ref.go:43", #[⟨2, .data⟩, ⟨3, .data⟩], none⟩) (v := ?_) ?_ ?_
       rotate_left
       ·intro W hW; go_simp <;> with_reducible rfl
       try simp only [Act.put, putA, putB, putC]
       refine wpE_t (i := 5) (oi := ⟨some 66, .load 5 (.tmp 65), 5, "ref.go:43", #[⟨4, .data⟩], none⟩) (v := ?_) ?_ ?_
       rotate_left
       ·intro W hW; have hcW := cellY cs hW; go_simp <;> with_reducible rfl
       try simp only [Act.put, putA, putB, putC]
       refine wpE_t (i := 6) (oi := ⟨some 67, .move (.tmp 8), 26, "ref.go:43", #[], none⟩) (v := ?_) ?_ ?_
       rotate_left
       ·intro W hW; go_simp <;> with_reducible rfl
       try simp only [Act.put, putA, putB, putC]
       refine wpE_t (i := 7) (oi := ⟨some 68, .move (.tmp 9), 3, "ref.go:43", #[], none⟩) (v := ?_) ?_ ?_
       rotate_left
       ·intro W hW; go_simp <;> with_reducible rfl
       try simp only [Act.put, putA, putB, putC]
       refine wpE_t (i := 8) (oi := ⟨some 69, .move (.tmp 11), 3, "ref.go:43", #[], none⟩) (v := ?_) ?_ ?_
       rotate_left
       ·intro W hW; go_simp <;> with_reducible rfl
       try simp only [Act.put, putA, putB, putC]
       refine wpE_t (i := 9) (oi := ⟨some 70, .binOp .add 3 (.tmp 68) (.tmp 69) 3, 3, "ref.go:43", #[⟨7, .data⟩, ⟨8, .data⟩], none⟩) (v := ?_) ?_ ?_
       rotate_left
       ·intro W hW; go_simp <;> with_reducible rfl
       try simp only [Act.put, putA, putB, putC]
       refine wpE_t (i := 10) (oi := ⟨some 71, .indexAddr 26 (.tmp 67) (.tmp 70), 0, "ref.go:43", #[⟨6, .data⟩, ⟨9, .data⟩], none⟩) (v := ?_) ?_ ?_
       rotate_left
       ·intro W hW; go_simp <;> with_reducible rfl
       try simp only [Act.put, putA, putB, putC]
       refine wpE_t (i := 11) (oi := ⟨some 72, .load 5 (.tmp 71), 5, "ref.go:43", #[⟨10, .data⟩], none⟩) (v := ?_) ?_ ?_
       rotate_left
       ·intro W hW; have hcW := cellY cp hW; go_simp <;> with_reducible rfl
       try simp only [Act.put, putA, putB, putC]
       refine wpE_t (i := 12) (oi := ⟨some 73, .binOp .xor 5 (.tmp 66) (.tmp 72) 5, 5, "ref.go:43", #[⟨5, .data⟩, ⟨11, .data⟩], none⟩) (v := ?_) ?_ ?_
       rotate_left
       ·intro W hW; go_simp <;> with_reducible rfl
       try simp only [Act.put, putA, putB, putC]
       refine wpE_t (i := 13) (oi := ⟨some 74, .indexAddr 26 (.tmp 61) (.tmp 62), 0, "ref.go:43", #[⟨0, .data⟩, ⟨1, .data⟩, ⟨0, .phase⟩, ⟨1, .phase⟩, ⟨2, .phase⟩, ⟨3, .phase⟩, ⟨4, .phase⟩, ⟨5, .phase⟩, ⟨6, .phase⟩, ⟨7, .phase⟩, ⟨8, .phase⟩, ⟨9, .phase⟩, ⟨10, .phase⟩, ⟨11, .phase⟩, ⟨12, .phase⟩], none⟩) (v := ?_) ?_ ?_
       rotate_left
       ·intro W hW; go_simp <;> with_reducible rfl
       try simp only [Act.put, putA, putB, putC]
       refine wpE_last (o := ⟨none, .store 5 (.tmp 74) (.tmp 73), 0, "ref.go:43", #[⟨13, .data⟩, ⟨12, .data⟩, ⟨0, .phase⟩, ⟨1, .phase⟩, ⟨2, .phase⟩, ⟨3, .phase⟩, ⟨4, .phase⟩, ⟨5, .phase⟩, ⟨6, .phase⟩, ⟨7, .phase⟩, ⟨8, .phase⟩, ⟨9, .phase⟩, ⟨10, .phase⟩, ⟨11, .phase⟩, ⟨12, .phase⟩], none⟩) (by kernel_rfl) (by kernel_rfl) rfl (by rfl) fun K hK => ?_
       go_simp
       refine hK.out _ _ ?_
       clear hK K
       try simp only [Act.put, putA, putB, putC]
       obtain ⟨hrow8, hb8⟩ := HS.out _ HX.out
       have hrow9 := hrow8.drew
       have hb9 := hb8.drew
       go_wp2
       go_roundw
       case rel => exact ⟨K + 1, by omega, by go_num, hrow9, hb9⟩
       case measure => simp [intOf]; omega
      ·have hKe : K = r := by omega
       rw [hKe] at hrow6
       have hd6 : decide ((K : Int) < (r : Int)) = false := decide_eq_false (by omega)
       have hKI : (r : Int) ≤ (K : Int) := by omega
       have hNs : Rd wr (.slice (some ⟨g5, 0, none⟩) 200 cap5) (xhP (bsP (abN r P b) 200) P I r) := by
        have h3 : NewI .u8 5 V (.slice (some ⟨g5, 0, none⟩) (bI (xhP (bsP (abN r P b) 200) P I r)).length cap5) (bI (xhP (bsP (abN r P b) 200) P I r)) wr := hrow6.new hg5 hb6
        have h4 := h3.toB.rd
        rw [bI_length, xhP_length] at h4
        exact h4
       have HI2 : Hid ((b + 1) * r = I + r) := by
        show (b + 1) * r = I + r
        rw [Nat.add_mul, Nat.one_mul, ← HI.out]
       have HE : Hid (rdsF (stF (xhP (bsP (abN r P b) 200) P I r)) 24 = abN r P (b + 1)) := by
        show _ = rdsF (stF (xhP (bsP (abN r P b) 200) P (b * r) r)) 24
        rw [← HI.out]
       have hbV := stepB hbT hb6
       clear hKe hrow6 hb6 hK hKlt
       go_wp2_with fail
       refine (state_any _ _ (xhP_length _ _ _ _) _ hNs).mono ?_
       rintro e w7 ⟨v7, rfl, hN7⟩
       have hb7 := stepB hbV hN7.2
       clear hNs hbV
       go_wp2_with fail
       refine (fast_any _ _ (stF_lt _) _ hN7.rd).mono ?_
       rintro e w8 ⟨v8, rfl, hN8⟩
       rw [HE.out] at hN8
       have hT8 : AtI 27 W2 (.slice (some ⟨w.heap.size, 0, none⟩) 25 25) v8 (abN r P (b + 1)) w8 := .inr (hN8.from hb7)
       clear hN7 hN8 hb7
       have wr2 : IntKind.i64.wrap ((I : Int) + (r : Int)) = (I : Int) + (r : Int) := IntWalk.i64_in _ (by omega)
       go_wp2
       go_roundw
       case rel => exact ⟨b + 1, I + r, by show _ = _; rw [HI2.out], by omega, by go_num, hT8⟩
       case measure => simp [intOf]; omega
    ·have hbe : b = nb := by
      have e1 := HI.out
      have e2 := HB.out
      rcases Nat.lt_or_ge b nb with h4 | h4
      ·have h5 := Nat.mul_le_mul_right r (show b + 1 ≤ nb from h4)
       rw [Nat.add_mul, Nat.one_mul] at h5
       omega
      ·omega
     rw [hbe] at hT
     have hd5 : decide ((I : Int) < (L : Int)) = false := decide_eq_false (by omega)
     have hII : (L : Int) ≤ (I : Int) := by omega
     have hbT := stepB hb0 hT.b
     have hR := hT.rd
     rw [HPP.out, HNB.out] at hR
     clear hT hbe hIL
     go_wp2
     go_ret
     exact ⟨_, rfl, hR, hbT⟩
theorem absorbR_any (R S : Int) (s : UInt8) (hS : S = (s.toNat : Int)) (vb : Value) (l : List UInt8) (hl : l.length ≤ 1000000) (w : World) (hr : Rd w vb l) :
  Calls Tryz.prog 38 #[.int .i64 R, .int .u8 S, vb] w fun e w' => ∃ v, e = .returned v ∧ RdI .u64 w' v (stL (abF R s l)) ∧ Below w.heap.size w w' := by
 subst hS
 by_cases h : 1 ≤ R ∧ R ≤ 200
 ·obtain ⟨r, rfl⟩ : ∃ r : Nat, R = r := ⟨R.toNat, by omega⟩
  have e : abF (r : Int) s l = abN r (padL r s l) (blN r l) := by unfold abF; rw [if_pos h, Int.toNat_natCast]
  rw [e]
  exact absorb_in r (by omega) (by omega) s vb l hl w hr
 ·have e : abF R s l = fun _ => 0 := by unfold abF; rw [if_neg h]
  rw [e]
  exact absorb_out R _ (by omega) vb w
theorem otL_first (f : Nat → Nat) (r n : Nat) (h : n ≤ r) : otL f r n = bsP f n := by
 unfold otL bsP
 refine List.map_congr_left fun k hk => ?_
 have := List.mem_range.1 hk
 unfold smF
 rw [Nat.div_eq_of_lt (by omega), Nat.mod_eq_of_lt (by omega)]
 rfl

set_option maxHeartbeats 400000 in
theorem sum256_any (vb : Value) (l : List UInt8) (w : World) (hr : Rd w vb l) (ht : Tabs w) :
  Calls Tryz.prog 27 #[vb] w fun e w' => ∃ v, e = .returned v ∧ New 5 w v (otL (abF 136 6 l) 136 32) w' := by
 go_enter Tryz.func27, Tryz.ntmps27
 go_wp2_with fail
 refine (absorb_any 136 6 6 rfl _ l _ hr ht).mono ?_
 rintro e w2 ⟨rfl, hB⟩
 go_wp2_with fail
 refine (first_any _ (abF 136 6 l) (abF_lt _ _ _) rfl 32 (by omega) _).mono ?_
 rintro e w3 ⟨v3, rfl, hN3⟩
 go_wp2
 go_ret
 rw [otL_first _ _ _ (by omega)]
 exact ⟨_, rfl, hN3.from hB⟩

theorem convS {w : World} {v : Value} {l : List UInt8} (h : Rd w v l) : (convert 26 9 v).run Tryz.prog w = .ok (.string ⟨l.toArray⟩) w := h.conv Tryz.underlying26 Tryz.underlying5 Tryz.underlying9
theorem Chg.past {g B : Nat} {a w w' : World} (h : Below B a w) (c : Chg (fun b => b = g) w w') (hB : B ≤ w.heap.size) (hg : B ≤ g) : Below B a w' := c.below h hB fun k _ e => by omega
theorem New.slice {e : TypeId} {w w' : World} {v : Value} {l : List UInt8} (h : New e w v l w') (hl : l ≠ []) : ∃ g cap, v = .slice (some ⟨g, 0, none⟩) l.length cap ∧ l.length ≤ cap := by
 have hpos : 0 < l.length := List.length_pos_iff.2 hl
 rcases h.1.2 with ⟨h', h0⟩ | ⟨g, cap, cur, h', hb, hg, hn, hm, hs, ht⟩
 ·omega
 ·exact ⟨g, cap, h', hn⟩
theorem alloc136 (w : World) : (Instr.alloc 83 true (.tuple #[])).run Tryz.prog w = .ok (.pointer (some ⟨w.heap.size, 0, none⟩)) (w.alloc (.cells ((byI (List.replicate 136 0)).map (Value.int .u8)).toArray 83)) := by kernel_rfl
theorem info136 {l : List UInt8} (h : l.length = 136) : (Tryz.prog.info? 83).map (·.size) = some (byI l).length := by
 rw [byI_length, h]
 kernel_rfl
theorem ne136 {l : List UInt8} (h : l.length = 136) : byI l ≠ [] := byI_ne (by rw [← List.length_pos_iff]; omega)
theorem max136 {l : List UInt8} (h : l.length = 136) : (byI l).length ≤ maxLen := by
 rw [byI_length, h]
 decide
def zs136 : List UInt8 := List.replicate 136 0
theorem zs136_length : zs136.length = 136 := List.length_replicate
theorem zs_lay (k : List UInt8) : kyS k ++ zs136.drop (kyS k).length = kyL k := by
 unfold zs136 kyL
 rw [List.drop_replicate]

set_option maxRecDepth 100000 in
set_option maxHeartbeats 1000000 in
theorem lay_any (vk : Value) (k : List UInt8) (w : World) (hr : Rd w vk k) (ht : Tabs w) :
  Calls Tryz.prog 54 #[vk] w fun e w' => e = .returned (arB (kyL k)) ∧ Below w.heap.size w w' := by
 obtain ⟨ak, capk, rfl, hcapk, hmaxk, hnilk, -⟩ := id hr
 unfold maxLen at hmaxk
 have hK1 := kyS_length k
 have HK2 : Hid ((kyL k).length = 136) := kyL_length k
 have HZ : Hid _ := zs_lay k
 have hz := zs136_length
 go_enter Tryz.func54, Tryz.ntmps54
 go_wp2_with (refine wpList_alloc_row (k := .u8) rfl 83 rfl (byI zs136) (alloc136 _) (ne136 hz) (max136 hz) ?_)
 intro w1 r1 b1 s1
 rw [byI_length, hz] at r1
 have hr1 := hr.kept b1
 have ht1 := ht.kept b1
 have HZ2 : Hid (zs136.length = 136) := hz
 clear hr ht hz
 by_cases hlong : 136 < k.length
 case' pos =>
  have HS : Hid (s2L k = kyS k) := by show _ = _; unfold kyS; rw [if_pos hlong]
  have hd : decide ((136 : Int) < (k.length : Int)) = true := decide_eq_true (by omega)
  have hlI : (136 : Int) < (k.length : Int) := by omega
  go_wp2_with fail
  refine (sum256_any _ k _ hr1 ht1).mono ?_
  rintro e w2 ⟨v2, rfl, hN2⟩
  have b2 := hN2.2
  have hR2 : Rd w2 v2 (kyS k) := by rw [← HS.out]; exact hN2.rd
  have r2 := r1.kept b2
  clear HS hN2 hd hlI hlong
 case' neg =>
  have HS : Hid (k = kyS k) := by show _ = _; unfold kyS; rw [if_neg hlong]
  have hd : decide ((136 : Int) < (k.length : Int)) = false := decide_eq_false (by omega)
  have hlI : (k.length : Int) ≤ 136 := by omega
  have b2 := Below.refl w1.heap.size w1
  have hR2 : Rd w1 (.slice ak k.length capk) (kyS k) := by rw [← HS.out]; exact hr1
  have r2 := r1
  clear HS hlong
 all_goals
  go_wp2_with (refine wpList_alloc_row (k := .u8) rfl 83 rfl (byI zs136) (alloc136 _) (ne136 HZ2.out) (max136 HZ2.out) ?_)
  intro w3 r3 b3 s3
  rw [byI_length, HZ2.out] at r3
  have hR3 := hR2.kept b3
  have b13 := stepB b2 b3
  have r23 := r2.kept b3
  have hge := b2.size
  clear hR2 r2
  go_wp2_with (refine wpList_copy_row (w := w1) rfl _ _ 26 rfl 5 Tryz.underlying26 (by kernel_rfl) zs136 rfl HZ2.out.symm r3 _ (kyS k) rfl hR3 (by rw [HZ2.out]; exact hK1) (by rw [← List.length_pos_iff, HZ2.out]; omega) b13 hge ?_)
  intro w4 r4 b4
  rw [HZ.out] at r4
  have z4 := b4.size
  clear hR3 r3 r23
  have r5 := r1.kept b4
  go_wp2_with (first | refine wpList_load_row rfl 83 _ rfl rfl r4 _ Tryz.underlying83 rfl (info136 HK2.out) ?_ | (refine wpList_store_row rfl 83 _ _ rfl (byI (kyL k)) rfl rfl r5 (by rw [byI_length, byI_length, HZ2.out, HK2.out]) (info136 HZ2.out) ?_; intro w6 r6 hw6))
  refine bodyPost_row (p := 2) (ty := 83) rfl rfl rfl r6 Tryz.underlying83 rfl (info136 HK2.out) ?_
  exact ⟨rfl, hw6.below _ _ (by omega) (stepB b1 b4)⟩

def mxD (l : List UInt8) (c : UInt8) (j : Nat) : List UInt8 := mxP l c j ++ l.drop j
theorem mxD_zero (l : List UInt8) (c : UInt8) : mxD l c 0 = l := by simp [mxD, mxP]
theorem mxD_length (l : List UInt8) (c : UInt8) (j : Nat) (h : j ≤ l.length) : (mxD l c j).length = l.length := by simp [mxD, mxP]; omega
theorem mxD_get (l : List UInt8) (c : UInt8) (j : Nat) : (mxD l c j).getD j 0 = l.getD j 0 := by
 simp [mxD, mxP_length, List.getElem?_append_right]
theorem mxD_set (l : List UInt8) (c : UInt8) (j : Nat) (h : j < l.length) : (mxD l c j).set j (l.getD j 0 ^^^ c) = mxD l c (j + 1) := by
 unfold mxD
 rw [List.set_append_right _ _ (by rw [mxP_length]; exact Nat.le_refl _), mxP_length, Nat.sub_self, List.drop_eq_getElem_cons h, List.set_cons_zero, ← mxP_next, List.append_assoc]
 rfl
theorem mxD_full (l : List UInt8) (c : UInt8) (n : Nat) (h : l.length = n) : mxD l c n = mxP l c n := by
 unfold mxD
 rw [List.drop_eq_nil_of_le (by omega), List.append_nil]

set_option maxRecDepth 100000 in
set_option maxHeartbeats 1000000 in
theorem add_any (A : Array Value) (l : List UInt8) (hl : l.length = 136) (hA : A = ((byI l).map (Value.int .u8)).toArray) (c : UInt8) (C : Int) (hC : C = (c.toNat : Int)) (w : World) :
  Calls Tryz.prog 55 #[.agg A, .int .u8 C] w fun e w' => e = .returned (arB (mxP l c 136)) ∧ Below w.heap.size w w' := by
 subst hC
 have hz := zs136_length
 go_enter Tryz.func55, Tryz.ntmps55
 go_wp2_with (refine wpList_box_row (k := .u8) rfl 83 _ rfl (byI l) (by rw [← hA]; rfl) (ne136 hl) (max136 hl) ?_)
 intro w1 r1 b1 s1
 rw [byI_length, hl] at r1
 go_wp2_with (refine wpList_alloc_row (k := .u8) rfl 83 rfl (byI zs136) (alloc136 _) (ne136 hz) (max136 hz) ?_)
 intro w2 r2 b2 s2
 rw [byI_length, hz] at r2
 have r12 := r1.kept b2
 have b12 := stepB b1 b2
 have HL : Hid (l.length = 136) := hl
 have HZ2 : Hid (zs136.length = 136) := hz
 have hgw : w.heap.size ≠ w1.heap.size := by have := s1.out; omega
 have hgl : w.heap.size ≤ w1.heap.size := by have := s1.out; omega
 clear r1 b2 b1 hA hl hz
 go_wp2
 go_loopw [6] (fun i wr => ∃ j : Nat, j ≤ 136 ∧ i = .int .i64 j ∧ RowAt .u8 83 w.heap.size 136 (byI (mxD l c j)) wr ∧ RowAt .u8 83 w1.heap.size 136 (byI zs136) wr ∧ Below w.heap.size w wr) (fun i _ => 136 - (intOf i).toNat)
 case atStart => exact ⟨0, by omega, rfl, by rw [mxD_zero]; exact r12, r2, b12⟩
 case round =>
  obtain ⟨j, hj, rfl, ra, rb, hb⟩ := hrel
  clear r12 r2 b12
  by_cases hlt : j < 136
  ·have hd : decide ((j : Int) < 136) = true := decide_eq_true (by omega)
   have hjI : (j : Int) < 136 := by omega
   have hc := ra.cellB (j := j) (by rw [mxD_length _ _ _ (by have := HL.out; omega)]; have := HL.out; omega)
   have hf := ra.free j
   rw [mxD_get] at hc
   have rn := ra.setB j (l.getD j 0 ^^^ c)
   rw [mxD_set _ _ _ (by have := HL.out; omega)] at rn
   have rbn := rb.other (p := ⟨w.heap.size, j, none⟩) hgw (.int .u8 ((l.getD j 0 ^^^ c).toNat : Int))
   have hbn : Below w.heap.size w (wr.setCell ⟨w.heap.size, j, none⟩ (.int .u8 ((l.getD j 0 ^^^ c).toNat : Int))) := (Wrote.set w.heap.size j wr _).below _ _ (Nat.le_refl _) hb
   have x1 := byte_xor (l.getD j 0) c
   generalize l.getD j 0 = q at hc rn rbn hbn x1
   clear ra rb hb
   go_wp2
   go_roundw
   case rel => exact ⟨j + 1, by omega, by go_num, rn, rbn, hbn⟩
   case measure => simp [intOf]; omega
  ·have hje : j = 136 := by omega
   have hd : decide ((j : Int) < 136) = false := decide_eq_false (by omega)
   have hjI : (136 : Int) ≤ (j : Int) := by omega
   rw [hje, mxD_full _ _ _ HL.out] at ra
   have HM : Hid ((mxP l c 136).length = 136) := mxP_length _ _ _
   clear hje
   go_wp2_with (first | refine wpList_load_row rfl 83 _ rfl rfl ra _ Tryz.underlying83 rfl (info136 HM.out) ?_ | (refine wpList_store_row rfl 83 _ _ rfl (byI (mxP l c 136)) rfl rfl rb (by rw [byI_length, byI_length, HZ2.out, HM.out]) (info136 HZ2.out) ?_; intro w6 r6 hw6))
   refine bodyPost_row (p := 4) (ty := 83) rfl rfl rfl r6 Tryz.underlying83 rfl (info136 HM.out) ?_
   exact ⟨rfl, hw6.below _ _ hgl hb⟩
theorem RdL.lit2 {w : World} {e : TypeId} {v1 v2 : Value} {l1 l2 : List UInt8} (h1 : Rd w v1 l1) (h2 : Rd w v2 l2) : RdL (w.alloc (.cells #[v1, v2] e)) (.slice (some ⟨w.heap.size, 0, none⟩) 2 2) [v1, v2] [l1, l2] :=
 RdL.lit _ _ rfl rfl rfl (by simp [maxLen]) rfl (fun i hi => by
  match i with
  | 0 => exact h1
  | 1 => exact h2
  | i + 2 => exact absurd hi (by simp))
theorem New.two {e : TypeId} {w w' : World} {v : Value} {l1 l2 : List UInt8} (h : New e w v [l1, l2].flatten w') : New e w v (l1 ++ l2) w' := by
 simpa using h

set_option maxRecDepth 100000 in
set_option maxHeartbeats 2000000 in
theorem mac_any (vk vb : Value) (k b : List UInt8) (hbl : b.length ≤ 100000) (w : World) (hrk : Rd w vk k) (hrb : Rd w vb b) (ht : Tabs w) :
  Calls Tryz.prog 39 #[vk, vb] w fun e w' => ∃ v, e = .returned v ∧ New 5 w v (mcF k b) w' := by
 have HK : Hid ((kyL k).length = 136) := kyL_length k
 have HZ : Hid (zs136.length = 136) := zs136_length
 have HI : Hid ((mxP (kyL k) 54 136).length = 136) := mxP_length _ _ _
 have HO : Hid ((mxP (kyL k) 92 136).length = 136) := mxP_length _ _ _
 have HF : Hid (s2L (mxP (kyL k) 92 136 ++ s2L (mxP (kyL k) 54 136 ++ b)) = mcF k b) := rfl
 have HB : Hid (b.length ≤ 100000) := hbl
 clear hbl
 go_enter Tryz.func39, Tryz.ntmps39
 go_wp2_with fail
 refine (lay_any _ k _ hrk ht).mono ?_
 rintro e w1 ⟨rfl, b1⟩
 go_wp2_with (refine wpList_alloc_row (k := .u8) rfl 83 rfl (byI zs136) (alloc136 _) (ne136 HZ.out) (max136 HZ.out) ?_)
 intro w2 r2 b2 s2
 rw [byI_length, HZ.out] at r2
 go_wp2_with (refine wpList_store_row rfl 83 _ _ rfl (byI (kyL k)) rfl rfl r2 (by rw [byI_length, byI_length, HZ.out, HK.out]) (info136 HZ.out) ?_)
 intro w3 r3 hw3
 have b13 := hw3.below _ _ (Nat.le_refl _) b2
 have b3 := stepB b1 b13
 have z3 := r3.lt
 clear r2 b2 s2 hw3 b1 b13
 go_wp2_with (refine wpList_load_row rfl 83 _ rfl rfl r3 _ Tryz.underlying83 rfl (info136 HK.out) ?_)
 refine (add_any _ (kyL k) HK.out rfl 54 54 rfl _).mono ?_
 rintro e w4 ⟨rfl, b4⟩
 have r4 := r3.kept b4
 have z4 := b4.size
 clear r3
 go_wp2_with (refine wpList_alloc_row (k := .u8) rfl 83 rfl (byI zs136) (alloc136 _) (ne136 HZ.out) (max136 HZ.out) ?_)
 intro w5 r5 b5 s5
 rw [byI_length, HZ.out] at r5
 have r45 := r4.kept b5
 go_wp2_with (refine wpList_store_row rfl 83 _ _ rfl (byI (mxP (kyL k) 54 136)) rfl rfl r5 (by rw [byI_length, byI_length, HZ.out, HI.out]) (info136 HZ.out) ?_)
 intro w6 r6 hw6
 have b46 := hw6.below _ _ (Nat.le_refl _) b5
 have b6 := stepB (stepB b3 b4) b46
 have z6 := r6.lt
 have r46 := r45.wrote hw6 (by omega)
 clear r45 r5 b5 s5 hw6 b46 b3 b4 r4
 go_wp2_with (refine wpList_load_row rfl 83 _ rfl rfl r46 _ Tryz.underlying83 rfl (info136 HK.out) ?_)
 refine (add_any _ (kyL k) HK.out rfl 92 92 rfl _).mono ?_
 rintro e w7 ⟨rfl, b7⟩
 have r7 := r6.kept b7
 have z7 := b7.size
 clear r6 r46
 go_wp2_with (refine wpList_alloc_row (k := .u8) rfl 83 rfl (byI zs136) (alloc136 _) (ne136 HZ.out) (max136 HZ.out) ?_)
 intro w8 r8 b8 s8
 rw [byI_length, HZ.out] at r8
 have r78 := r7.kept b8
 go_wp2_with (refine wpList_store_row rfl 83 _ _ rfl (byI (mxP (kyL k) 92 136)) rfl rfl r8 (by rw [byI_length, byI_length, HZ.out, HO.out]) (info136 HZ.out) ?_)
 intro w9 r9 hw9
 have b79 := hw9.below _ _ (Nat.le_refl _) b8
 have b9 := stepB (stepB b6 b7) b79
 have r79 := r78.wrote hw9 (by omega)
 have hrb9 := hrb.kept b9
 have ht9 := ht.kept b9
 have hI9 := r79.rdB
 have hO9 := r9.rdB
 rw [HI.out] at hI9
 rw [HO.out] at hO9
 have hB : b.length ≤ 100000 := HB.out
 generalize hgI : mxP (kyL k) 54 136 = lI at HI HF hI9
 generalize hgO : mxP (kyL k) 92 136 = lO at HO HF hO9
 clear r78 r8 b8 s8 hw9 b79 b6 b7 r7 r79 r9 hrb hrk ht hgI hgO z3 z4 z6 z7
 have HB9 : Hid _ := b9
 clear b9 HZ HK
 obtain ⟨ab, cb, rfl, -, -, -, -⟩ := id hrb9
 have hL1 := RdL.lit2 (e := 26) hI9.drew hrb9.drew
 have g1 := growB (w := w9.drew) (.cells #[.slice (some ⟨w4.heap.size, 0, none⟩) 136 136, .slice ab b.length cb] 26)
 have ht10 := (ht9.kept (Below.refl _ _).drew).kept g1
 have hO10 := hO9.drew.kept g1
 have h1 : totL [lI, b] ≤ 1000000000 := by have := HI.out; simp [totL]; omega
 have HT1 : Hid _ := h1
 clear h1 hI9 hrb9 ht9 hO9 hB
 go_wp2_with fail
 refine wpG_begin (by kernel_rfl) ?_
 refine wpG_t (i := 0) (oi := ⟨some 14, .slice 83 (.tmp 7) none none none, 26, "hkdf.go:23", #[], none⟩) (v := ?_) ?_ ?_
 rotate_left
 ·intro W hW; go_simp <;> with_reducible rfl
 try simp only [Act.put, putA, putB, putC]
 refine wpG_t (i := 1) (oi := ⟨some 15, .slice 83 (.tmp 6) none none none, 26, "hkdf.go:23", #[], none⟩) (v := ?_) ?_ ?_
 rotate_left
 ·intro W hW; go_simp <;> with_reducible rfl
 try simp only [Act.put, putA, putB, putC]
 refine wpG_t (i := 2) (oi := ⟨some 16, .move (.tmp 1), 26, "hkdf.go:23", #[], none⟩) (v := ?_) ?_ ?_
 rotate_left
 ·intro W hW; go_simp <;> with_reducible rfl
 try simp only [Act.put, putA, putB, putC]
 refine wpG_do (i := 3) (o := ⟨some 17, .buildSlice 75 2 #[(0, .tmp 15), (1, .tmp 16)], 75, "hkdf.go:23", #[⟨1, .data⟩, ⟨2, .data⟩], none⟩) (by kernel_rfl) rfl (by rfl) fun K hK => ?_
 go_simp
 refine hK.out _ _ g1 ?_
 clear hK K
 try simp only [Act.put, putA, putB, putC]
 refine wpG_do (i := 4) (o := ⟨some 18, .call { callee := .value (.func 28), args := #[.tmp 17], argTypes := #[75] }, 26, "hkdf.go:23", #[⟨3, .data⟩], none⟩) (by kernel_rfl) rfl (by rfl) fun K hK => ?_
 go_simp
 refine (join_any _ _ _ _ hL1 HT1.out).mono ?_
 rintro e w11 ⟨v11, rfl, hN11⟩
 refine hK.out _ _ hN11.2 ?_
 clear hK K
 have ht11 := ht10.kept hN11.2
 have hO11 := hO10.kept hN11.2
 have g11 := stepB g1 hN11.2
 have hR11 := hN11.two.rd
 try simp only [Act.put, putA, putB, putC]
 refine wpG_do (i := 5) (o := ⟨some 19, .call { callee := .value (.func 27), args := #[.tmp 18], argTypes := #[26] }, 26, "hkdf.go:23", #[⟨4, .data⟩, ⟨4, .chain⟩], none⟩) (by kernel_rfl) rfl (by rfl) fun K hK => ?_
 go_simp
 refine (sum256_any _ (lI ++ b) _ hR11 ht11).mono ?_
 rintro e w12 ⟨v12, rfl, hN12⟩
 refine hK.out _ _ hN12.2 ?_
 clear hK K
 have ht12 := ht11.kept hN12.2
 have hO12 := hO11.kept hN12.2
 have g12 := stepB g11 hN12.2
 have hR12 : Rd w12 v12 (s2L (lI ++ b)) := hN12.rd
 obtain ⟨a12, c12, rfl, -, -, -, -⟩ := id hR12
 have hL2 := RdL.lit2 (e := 26) hO12 hR12
 have g2 := growB (w := w12) (.cells #[.slice (some ⟨w7.heap.size, 0, none⟩) 136 136, .slice a12 (s2L (lI ++ b)).length c12] 26)
 have ht13 := ht12.kept g2
 have h2 : totL [lO, s2L (lI ++ b)] ≤ 1000000000 := by have := HO.out; simp [totL, s2L_length]; omega
 have HT2 : Hid _ := h2
 clear h2
 try simp only [Act.put, putA, putB, putC]
 refine wpG_do (i := 6) (o := ⟨some 20, .buildSlice 75 2 #[(0, .tmp 14), (1, .tmp 19)], 75, "hkdf.go:23", #[⟨0, .data⟩, ⟨5, .data⟩], none⟩) (by kernel_rfl) rfl (by rfl) fun K hK => ?_
 go_simp
 refine hK.out _ _ g2 ?_
 clear hK K
 try simp only [Act.put, putA, putB, putC]
 refine wpG_do (i := 7) (o := ⟨some 21, .call { callee := .value (.func 28), args := #[.tmp 20], argTypes := #[75] }, 26, "hkdf.go:23", #[⟨6, .data⟩, ⟨5, .chain⟩], none⟩) (by kernel_rfl) rfl (by rfl) fun K hK => ?_
 go_simp
 refine (join_any _ _ _ _ hL2 HT2.out).mono ?_
 rintro e w14 ⟨v14, rfl, hN14⟩
 refine hK.out _ _ hN14.2 ?_
 clear hK K
 have ht14 := ht13.kept hN14.2
 have g14 := stepB (stepB g12 g2) hN14.2
 have hR14 := hN14.two.rd
 try simp only [Act.put, putA, putB, putC]
 refine wpG_do (i := 8) (o := ⟨some 22, .call { callee := .value (.func 27), args := #[.tmp 21], argTypes := #[26] }, 26, "hkdf.go:23", #[⟨7, .data⟩, ⟨7, .chain⟩], none⟩) (by kernel_rfl) rfl (by rfl) fun K hK => ?_
 go_simp
 refine (sum256_any _ (lO ++ s2L (lI ++ b)) _ hR14 ht14).mono ?_
 rintro e w15 ⟨v15, rfl, hN15⟩
 refine hK.out _ _ hN15.2 ?_
 clear hK K
 try simp only [Act.put, putA, putB, putC]
 refine wpG_t (i := 9) (oi := ⟨some 4, .assign (.tmp 22), 26, "hkdf.go:23", #[⟨8, .data⟩, ⟨8, .chain⟩, ⟨0, .phase⟩, ⟨1, .phase⟩, ⟨2, .phase⟩, ⟨3, .phase⟩, ⟨4, .phase⟩, ⟨5, .phase⟩, ⟨6, .phase⟩, ⟨7, .phase⟩, ⟨8, .phase⟩], none⟩) (v := ?_) ?_ ?_
 rotate_left
 ·intro W hW; go_simp <;> with_reducible rfl
 try simp only [Act.put, putA, putB, putC]
 refine wpG_done (by kernel_rfl) ?_
 go_wp2
 go_ret
 refine ⟨_, rfl, ?_⟩
 rw [← HF.out]
 exact hN15.from (stepB HB9.out.drew g14)
theorem RdL.lit2b {w : World} {e : TypeId} {v1 v2 : Value} {l1 l2 : List UInt8} {b : Nat} (hb : b = w.heap.size) (h1 : Rd w v1 l1) (h2 : Rd w v2 l2) : RdL (w.alloc (.cells #[v1, v2] e)) (.slice (some ⟨b, 0, none⟩) 2 2) [v1, v2] [l1, l2] := by
 subst hb
 exact RdL.lit2 h1 h2

set_option maxRecDepth 100000 in
set_option maxHeartbeats 1000000 in
theorem hnext_any (vt vp : Value) (t p : List UInt8) (c : UInt8) (C : Int) (hC : C = (c.toNat : Int)) (hp : p.length ≤ 1000) (w : World) (hrt : Rd w vt t) (hrp : Rd w vp p) (ht : Tabs w) :
  Calls Tryz.prog 40 #[vt, vp, .int .u8 C] w fun e w' => ∃ v, e = .returned v ∧ New 5 w v (mcF t (p ++ [c])) w' := by
 obtain ⟨ap, cp, rfl, -, -, -, -⟩ := id hrp
 have g1 := growB (w := w) (.cells #[.int .u8 C] 5)
 have hc : Rd (w.alloc (.cells #[.int .u8 C] 5)) (.slice (some ⟨w.heap.size, 0, none⟩) 1 1) [c] := Rd.lit1 c hC
 have hL := RdL.lit2b (e := 26) (b := w.heap.size + 1) (by simp) (hrp.kept g1) hc
 have g2 := stepB g1 (growB (w := w.alloc (.cells #[.int .u8 C] 5)) (.cells #[.slice ap p.length cp, .slice (some ⟨w.heap.size, 0, none⟩) 1 1] 26))
 have hrt2 := hrt.kept g2
 have ht2 := ht.kept g2
 have h1 : totL [p, [c]] ≤ 1000000000 := by simp [totL]; omega
 have HT : Hid _ := h1
 have HL : Hid ((p ++ [c]).length ≤ 100000) := by show _ ≤ _; simp; omega
 clear hc hrp hrt ht h1 hp hC g1
 go_enter Tryz.func40, Tryz.ntmps40
 go_wp2_with fail
 refine (join_any _ _ _ _ hL HT.out).mono ?_
 rintro e w3 ⟨v3, rfl, hN3⟩
 have hR3 := hN3.two.rd
 have b3 := stepB g2 hN3.2
 have hrt3 := hrt2.kept hN3.2
 have ht3 := ht2.kept hN3.2
 clear hN3 hrt2 ht2 hL g2
 go_wp2_with fail
 refine (mac_any _ _ t (p ++ [c]) HL.out _ hrt3 hR3 ht3).mono ?_
 rintro e w4 ⟨v4, rfl, hN4⟩
 go_wp2
 go_ret
 exact ⟨_, rfl, hN4.from b3⟩

set_option maxRecDepth 100000 in
set_option maxHeartbeats 1000000 in
theorem two_own (vk vb : Value) (k b : List UInt8) (hbl : b.length ≤ 100000) (w : World) (hrk : Rd w vk k) (hrb : Rd w vb b) (ht : Tabs w) :
  Calls Tryz.prog 25 #[vk, vb] w fun e w' => ∃ v1 v2, e = .returned (.tuple #[v1, v2]) ∧ Ow 5 w.heap.size v1 (k1F k b) w' ∧ Ow 5 w.heap.size v2 (k2F k b) w' ∧ Below w.heap.size w w' := by
 have h1 : (k1F k b).length = 32 := mcF_length _ _
 go_enter Tryz.func25, Tryz.ntmps25
 go_wp2_with fail
 refine (mac_any _ _ k b hbl _ hrk hrb ht).mono ?_
 rintro e w1 ⟨vt, rfl, hN1⟩
 have hT1 := hN1.rd
 have ht1 := ht.kept hN1.2
 have b1 := hN1.2
 clear hN1 hrk hrb ht
 go_wp2_with fail
 refine (hnext_any _ _ (mcF k b) [] 1 1 rfl (by simp) _ hT1 (Rd.nil _) ht1).mono ?_
 rintro e w2 ⟨va, rfl, hN2⟩
 have hA2 : Rd w2 va (k1F k b) := hN2.rd
 have oA2 : Ow 5 w.heap.size va (k1F k b) w2 := Ow.mono (Ow.of_new hN2) b1.size
 have hT2 := hT1.kept hN2.2
 have ht2 := ht1.kept hN2.2
 have b2 := stepB b1 hN2.2
 clear hN2 hT1 ht1 b1
 go_wp2_with fail
 refine (hnext_any _ _ (mcF k b) (k1F k b) 2 2 rfl (by omega) _ hT2 hA2 ht2).mono ?_
 rintro e w3 ⟨vc, rfl, hN3⟩
 have hC3 : Rd w3 vc (k2F k b) := hN3.rd
 have oC3 : Ow 5 w.heap.size vc (k2F k b) w3 := Ow.mono (Ow.of_new hN3) b2.size
 have oA3 := oA2.kept hN3.2
 have hA3 := hA2.kept hN3.2
 have b3 := stepB b2 hN3.2
 go_wp2
 go_ret2
 exact ⟨_, _, rfl, oA3, oC3, b3⟩

set_option maxRecDepth 100000 in
set_option maxHeartbeats 1000000 in
theorem three_own (vk vb : Value) (k b : List UInt8) (hbl : b.length ≤ 100000) (w : World) (hrk : Rd w vk k) (hrb : Rd w vb b) (ht : Tabs w) :
  Calls Tryz.prog 30 #[vk, vb] w fun e w' => ∃ v1 v2 v3, e = .returned (.tuple #[v1, v2, v3]) ∧ Ow 5 w.heap.size v1 (k1F k b) w' ∧ Ow 5 w.heap.size v2 (k2F k b) w' ∧ Ow 5 w.heap.size v3 (k3F k b) w' ∧ Below w.heap.size w w' := by
 have h1 : (k1F k b).length = 32 := mcF_length _ _
 have h2 : (k2F k b).length = 32 := mcF_length _ _
 go_enter Tryz.func30, Tryz.ntmps30
 go_wp2_with fail
 refine (mac_any _ _ k b hbl _ hrk hrb ht).mono ?_
 rintro e w1 ⟨vt, rfl, hN1⟩
 have hT1 := hN1.rd
 have ht1 := ht.kept hN1.2
 have b1 := hN1.2
 clear hN1 hrk hrb ht
 go_wp2_with fail
 refine (hnext_any _ _ (mcF k b) [] 1 1 rfl (by simp) _ hT1 (Rd.nil _) ht1).mono ?_
 rintro e w2 ⟨va, rfl, hN2⟩
 have hA2 : Rd w2 va (k1F k b) := hN2.rd
 have oA2 : Ow 5 w.heap.size va (k1F k b) w2 := Ow.mono (Ow.of_new hN2) b1.size
 have hT2 := hT1.kept hN2.2
 have ht2 := ht1.kept hN2.2
 have b2 := stepB b1 hN2.2
 clear hN2 hT1 ht1 b1
 go_wp2_with fail
 refine (hnext_any _ _ (mcF k b) (k1F k b) 2 2 rfl (by omega) _ hT2 hA2 ht2).mono ?_
 rintro e w3 ⟨vc, rfl, hN3⟩
 have hC3 : Rd w3 vc (k2F k b) := hN3.rd
 have oC3 : Ow 5 w.heap.size vc (k2F k b) w3 := Ow.mono (Ow.of_new hN3) b2.size
 have oA3 := oA2.kept hN3.2
 have hA3 := hA2.kept hN3.2
 have hT3 := hT2.kept hN3.2
 have ht3 := ht2.kept hN3.2
 have b3 := stepB b2 hN3.2
 clear hN3 hA2 hT2 ht2 b2
 go_wp2_with fail
 refine (hnext_any _ _ (mcF k b) (k2F k b) 3 3 rfl (by omega) _ hT3 hC3 ht3).mono ?_
 rintro e w4 ⟨vd, rfl, hN4⟩
 have oD4 : Ow 5 w.heap.size vd (k3F k b) w4 := Ow.mono (Ow.of_new hN4) b3.size
 have oA4 := oA3.kept hN4.2
 have oC4 := oC3.kept hN4.2
 have b4 := stepB b3 hN4.2
 go_wp2
 go_ret3
 exact ⟨_, _, _, rfl, oA4, oC4, oD4, b4⟩
theorem wp_make_own {P : Program} {e : TypeId} {w : World} {o : Oper} {a : Act} {K : Act → World → Prop} {Q : Exit → Act → World → Prop} (l c : Operand) (t : TypeId) (ho : o.op = .makeSlice t l c) (hu : P.underlying t = some (.slice e))
  (hinfo : (P.info? e).map (fun i => (i.zero, i.size, i.bytes)) = some (some (.int .u8 0), 1, 1)) (n : Nat) (hl : a.eval l = .int .i64 (n : Int)) (hc : a.eval c = .int .i64 (n : Int)) (hn : n ≤ 1000000)
  (h : ∀ w', New e w (.slice (some ⟨w.heap.size, 0, none⟩) n n) (List.replicate n 0) w' → K (a.put o.dst (.slice (some ⟨w.heap.size, 0, none⟩) n n)) w') : o.wp P a w K Q := by
 obtain ⟨i, hi, hz0, hz1, hz2⟩ := info_parts hinfo
 obtain ⟨w', hrun, r1, r2⟩ := run_make_full (P := P) w w.heap.size t e i _ 1 hu hi hz0 hz1 .i64 .i64 n (by rw [hz2]; omega) (by unfold maxLen; omega) (Nat.le_refl _)
 unfold Oper.wp
 simp [execOp, ho, hl, hc, hrun, Result.andThen]
 rw [Nat.mul_one] at r1
 exact h w' (New.made r1 r2)
theorem wpList_make_own {P : Program} {e : TypeId} {w : World} {ops : Array Oper} {rest : List Oper} {o : Oper} {a : Act} {Q : Exit → Act → World → Prop} (hgd : o.guard = none) (l c : Operand) (t : TypeId) (ho : o.op = .makeSlice t l c) (hu : P.underlying t = some (.slice e))
  (hinfo : (P.info? e).map (fun i => (i.zero, i.size, i.bytes)) = some (some (.int .u8 0), 1, 1)) (n : Nat) (hl : a.eval l = .int .i64 (n : Int)) (hc : a.eval c = .int .i64 (n : Int)) (hn : n ≤ 1000000)
  (h : ∀ w', New e w (.slice (some ⟨w.heap.size, 0, none⟩) n n) (List.replicate n 0) w' → wpList P ops Q rest (a.put o.dst (.slice (some ⟨w.heap.size, 0, none⟩) n n)) w') : wpList P ops Q (o :: rest) a w :=
 wpList_plain hgd fun _ hK => wp_make_own l c t ho hu hinfo n hl hc hn fun w' h1 => hK _ _ (h w' h1)

theorem RdL.lit2G {w : World} {e : TypeId} {v1 v2 : Value} {l1 l2 : List UInt8} (h1 : Rd w v1 l1) (h2 : Rd w v2 l2) : RdL (w.alloc (.cells #[v1, v2] e)) (.slice (some ⟨w.heap.size, 0, none⟩) 2 2) [v1, v2] [l1, l2] ∧ Below w.heap.size w (w.alloc (.cells #[v1, v2] e)) := ⟨RdL.lit2 h1 h2, growB _⟩

set_option maxRecDepth 100000 in
set_option maxHeartbeats 2000000 in
theorem nonceOf_any (x : Nat) (hx : x < 18446744073709551616) (w : World) : Calls Tryz.prog 49 #[.int .u64 (x : Int)] w fun e w' => ∃ v, e = .returned v ∧ New 5 w v (ncL x) w' := by
 have HL : Hid (totL [List.replicate 4 (0 : UInt8), st8 x] ≤ 1000000000) := by show _ ≤ _; simp [totL, st8_length]
 clear hx
 go_enter Tryz.func49, Tryz.ntmps49
 go_wp2_with fail
 have hB : Below w.heap.size w w.drew := (Below.refl _ _).drew
 refine wpB_begin (Below.refl w.heap.size w) (by kernel_rfl) ?_
 refine wpB_t (hb := hB) (i := 1) (oi := ⟨some 4, .move (.tmp 0), 27, "cipher.go:84", #[], none⟩) (v := ?_) ?_ ?_
 rotate_left
 ·intro W hW; go_simp <;> with_reducible rfl
 try simp only [Act.put, putA, putB, putC]
 refine wpB_fork (i := 0) (j := 2) (oi := ⟨some 3, .makeSlice 26 (.const (.int .i64 4)) (.const (.int .i64 4)), 26, "cipher.go:84", #[], none⟩) (oj := ⟨some 5, .call { callee := .value (.func 63), args := #[.tmp 4, .const (.int .i64 8)], argTypes := #[27, 3] }, 26, "cipher.go:84", #[⟨1, .data⟩], none⟩) (by kernel_rfl) rfl rfl (by rfl) (by rfl) (fun K hK => ?_) (fun K hK => ?_)
 ·refine wp_make_own _ _ 26 rfl Tryz.underlying26 infoU8 4 rfl rfl (by decide) ?_
  intro wm hNm
  have hM := hNm.rd
  replace hB := stepB hB hNm.2
  try replace hS := Rd.kept hS hNm.2
  refine hK.out _ _ hB ?_
  clear hK K
  try simp only [Act.put, putA, putB, putC]
  refine wpB_do (i := 2) (o := ⟨some 5, .call { callee := .value (.func 63), args := #[.tmp 4, .const (.int .i64 8)], argTypes := #[27, 3] }, 26, "cipher.go:84", #[⟨1, .data⟩], none⟩) (by kernel_rfl) rfl (by rfl) fun K hK => ?_
  go_simp
  refine (store_k x 8 8 (by decide) (.inr (.inl ⟨by decide, by decide, rfl⟩)) _).mono ?_
  rintro e ws ⟨vs, rfl, hNs⟩
  have hS : Rd ws vs (st8 x) := hNs.rd
  obtain ⟨sa, sc, rfl, -⟩ := id hS
  replace hB := stepB hB hNs.2
  try replace hM := Rd.kept hM hNs.2
  refine hK.out _ _ hB ?_
  clear hK K
  try simp only [Act.put, putA, putB, putC]
  refine wpB_do (i := 3) (o := ⟨some 6, .buildSlice 75 2 #[(0, .tmp 3), (1, .tmp 5)], 75, "cipher.go:84", #[⟨0, .data⟩, ⟨2, .data⟩], none⟩) (by kernel_rfl) rfl (by rfl) fun K hK => ?_
  go_simp
  obtain ⟨hL, bL⟩ := RdL.lit2G (e := 26) hM hS
  replace hB := stepB hB bL
  refine hK.out _ _ hB ?_
  clear hK K
  try simp only [Act.put, putA, putB, putC]
  refine wpB_do (i := 4) (o := ⟨some 7, .call { callee := .value (.func 28), args := #[.tmp 6], argTypes := #[75] }, 26, "cipher.go:84", #[⟨3, .data⟩, ⟨2, .chain⟩], none⟩) (by kernel_rfl) rfl (by rfl) fun K hK => ?_
  go_simp
  refine (join_any _ _ _ _ hL HL.out).mono ?_
  rintro e wj ⟨vj, rfl, hNj⟩
  have HJ : Hid (New 5 w vj (ncL x) wj) := hNj.two.from hB
  replace hB := stepB hB hNj.2
  refine hK.out _ _ hB ?_
  clear hK K
  try simp only [Act.put, putA, putB, putC]
  refine wpB_t (hb := hB) (i := 5) (oi := ⟨some 2, .assign (.tmp 7), 26, "cipher.go:84", #[⟨4, .data⟩, ⟨4, .chain⟩, ⟨0, .phase⟩, ⟨1, .phase⟩, ⟨2, .phase⟩, ⟨3, .phase⟩, ⟨4, .phase⟩], none⟩) (v := ?_) ?_ ?_
  rotate_left
  ·intro W hW; go_simp <;> with_reducible rfl
  try simp only [Act.put, putA, putB, putC]
  refine wpB_done (by kernel_rfl) ?_
  go_wp2
  go_ret
  exact ⟨vj, rfl, HJ.out⟩
 ·go_simp
  refine (store_k x 8 8 (by decide) (.inr (.inl ⟨by decide, by decide, rfl⟩)) _).mono ?_
  rintro e ws ⟨vs, rfl, hNs⟩
  have hS : Rd ws vs (st8 x) := hNs.rd
  obtain ⟨sa, sc, rfl, -⟩ := id hS
  replace hB := stepB hB hNs.2
  try replace hM := Rd.kept hM hNs.2
  refine hK.out _ _ hB ?_
  clear hK K
  try simp only [Act.put, putA, putB, putC]
  refine wpB_do (i := 0) (o := ⟨some 3, .makeSlice 26 (.const (.int .i64 4)) (.const (.int .i64 4)), 26, "cipher.go:84", #[], none⟩) (by kernel_rfl) rfl (by rfl) fun K hK => ?_
  refine wp_make_own _ _ 26 rfl Tryz.underlying26 infoU8 4 rfl rfl (by decide) ?_
  intro wm hNm
  have hM := hNm.rd
  replace hB := stepB hB hNm.2
  try replace hS := Rd.kept hS hNm.2
  refine hK.out _ _ hB ?_
  clear hK K
  try simp only [Act.put, putA, putB, putC]
  refine wpB_do (i := 3) (o := ⟨some 6, .buildSlice 75 2 #[(0, .tmp 3), (1, .tmp 5)], 75, "cipher.go:84", #[⟨0, .data⟩, ⟨2, .data⟩], none⟩) (by kernel_rfl) rfl (by rfl) fun K hK => ?_
  go_simp
  obtain ⟨hL, bL⟩ := RdL.lit2G (e := 26) hM hS
  replace hB := stepB hB bL
  refine hK.out _ _ hB ?_
  clear hK K
  try simp only [Act.put, putA, putB, putC]
  refine wpB_do (i := 4) (o := ⟨some 7, .call { callee := .value (.func 28), args := #[.tmp 6], argTypes := #[75] }, 26, "cipher.go:84", #[⟨3, .data⟩, ⟨2, .chain⟩], none⟩) (by kernel_rfl) rfl (by rfl) fun K hK => ?_
  go_simp
  refine (join_any _ _ _ _ hL HL.out).mono ?_
  rintro e wj ⟨vj, rfl, hNj⟩
  have HJ : Hid (New 5 w vj (ncL x) wj) := hNj.two.from hB
  replace hB := stepB hB hNj.2
  refine hK.out _ _ hB ?_
  clear hK K
  try simp only [Act.put, putA, putB, putC]
  refine wpB_t (hb := hB) (i := 5) (oi := ⟨some 2, .assign (.tmp 7), 26, "cipher.go:84", #[⟨4, .data⟩, ⟨4, .chain⟩, ⟨0, .phase⟩, ⟨1, .phase⟩, ⟨2, .phase⟩, ⟨3, .phase⟩, ⟨4, .phase⟩], none⟩) (v := ?_) ?_ ?_
  rotate_left
  ·intro W hW; go_simp <;> with_reducible rfl
  try simp only [Act.put, putA, putB, putC]
  refine wpB_done (by kernel_rfl) ?_
  go_wp2
  go_ret
  exact ⟨vj, rfl, HJ.out⟩

def spC (vk vn va : Value) : List Value := [vk, vn, va]
theorem alloc_sp (w : World) : (Instr.alloc 66 true (.tuple #[])).run Tryz.prog w = .ok (.pointer (some ⟨w.heap.size, 0, none⟩)) (w.alloc (.cells (spC (.slice none 0 0) (.slice none 0 0) (.slice none 0 0)).toArray 66)) := by kernel_rfl
theorem info_sp (vk vn va : Value) : (Tryz.prog.info? 66).map (·.size) = some (spC vk vn va).length := by
 show _ = some 3
 kernel_rfl
theorem spC_all (a1 a2 a3 : Option Addr) (l1 c1 l2 c2 l3 c3 : Nat) : (spC (.slice a1 l1 c1) (.slice a2 l2 c2) (.slice a3 l3 c3)).toArray.all (·.oneCell') = true := by kernel_rfl
theorem spC_no8 (a1 a2 a3 : Option Addr) (l1 c1 l2 c2 l3 c3 : Nat) : No8 (spC (.slice a1 l1 c1) (.slice a2 l2 c2) (.slice a3 l3 c3)) := No8.of_slices (by
 intro v hv x
 simp only [spC, List.mem_cons, List.not_mem_nil, or_false] at hv
 rcases hv with rfl | rfl | rfl <;> simp)
theorem build_sp (a1 a2 a3 : Option Addr) (l1 c1 l2 c2 l3 c3 : Nat) (w : World) : (Instr.build 66 #[(0, .slice a1 l1 c1), (1, .slice a2 l2 c2), (2, .slice a3 l3 c3)]).run Tryz.prog w = .ok (.agg #[.slice a1 l1 c1, .slice a2 l2 c2, .slice a3 l3 c3]) w := by kernel_rfl
theorem wholeS (l : List Value) : l = [] ++ l ++ [] := by simp
theorem cellS {w W : World} {p : Addr} {v : Value} (h : w.cell? p = some v) (hb : Below w.drew.heap.size w.drew W) : W.cell? p = some v := by
 have h2 : w.drew.cell? p = some v := h
 rw [hb.cell (World.block_lt_of_cell? _ _ h2)]
 exact h2

set_option maxRecDepth 100000 in
set_option maxHeartbeats 2000000 in
theorem swith_any (g o : Nat) (ak aa : Option Addr) (lk ck la ca n : Nat) (hn : n < 18446744073709551616) (w : World) (hc : w.cell? ⟨g, o, none⟩ = some (.slice ak lk ck)) :
  Calls Tryz.prog 35 #[.pointer (some ⟨g, o, none⟩), .int .u64 (n : Int), .slice aa la ca] w fun e w' => ∃ vn, e = .returned (.agg #[.slice ak lk ck, vn, .slice aa la ca]) ∧ Rd w' vn (ncL n) ∧ Below w.heap.size w w' := by
 have HN : Hid _ := hn
 clear hn
 go_enter Tryz.func35, Tryz.ntmps35
 go_wp2_with (refine wpList_alloc_blk rfl 66 rfl (spC (.slice none 0 0) (.slice none 0 0) (.slice none 0 0)) (alloc_sp _) ?_)
 intro w1 r1 b1 s1
 have c0 : w1.cell? ⟨g, o, none⟩ = some (.slice ak lk ck) := by
  rw [b1.cell (World.block_lt_of_cell? _ _ hc)]
  exact hc
 have z1 : w.heap.size ≤ w.heap.size := Nat.le_refl _
 clear hc s1
 go_wp2_with fail
 refine wpE_begin 8 (by kernel_rfl) ?_
 refine wpE_t (i := 0) (oi := ⟨some 7, .move (.tmp 0), 64, "cipher.go:67", #[], none⟩) (v := ?_) ?_ ?_
 rotate_left
 ·intro W hW; go_simp <;> with_reducible rfl
 try simp only [Act.put, putA, putB, putC]
 refine wpE_t (i := 1) (oi := ⟨some 8, .nilCheck (.tmp 7), 0, "cipher.go:67", #[⟨0, .data⟩], none⟩) (v := ?_) ?_ ?_
 rotate_left
 ·intro W hW; go_simp <;> with_reducible rfl
 try simp only [Act.put, putA, putB, putC]
 refine wpE_t (i := 2) (oi := ⟨some 9, .fieldAddr 42 (.tmp 8) 0, 0, "cipher.go:67", #[⟨1, .data⟩], none⟩) (v := ?_) ?_ ?_
 rotate_left
 ·intro W hW; go_simp <;> with_reducible rfl
 try simp only [Act.put, putA, putB, putC]
 refine wpE_t (i := 3) (oi := ⟨some 10, .load 26 (.tmp 9), 26, "cipher.go:67", #[⟨2, .data⟩], none⟩) (v := ?_) ?_ ?_
 rotate_left
 ·intro W hW; have hcW := cellS c0 hW; go_simp <;> with_reducible rfl
 try simp only [Act.put, putA, putB, putC]
 refine wpE_t (i := 4) (oi := ⟨some 11, .move (.tmp 1), 27, "cipher.go:67", #[], none⟩) (v := ?_) ?_ ?_
 rotate_left
 ·intro W hW; go_simp <;> with_reducible rfl
 try simp only [Act.put, putA, putB, putC]
 refine wpE_t (i := 6) (oi := ⟨some 13, .move (.tmp 2), 26, "cipher.go:67", #[], none⟩) (v := ?_) ?_ ?_
 rotate_left
 ·intro W hW; go_simp <;> with_reducible rfl
 try simp only [Act.put, putA, putB, putC]
 refine wpE_do (i := 5) (o := ⟨some 12, .call { callee := .value (.func 49), args := #[.tmp 11], argTypes := #[27] }, 26, "cipher.go:67", #[⟨4, .data⟩], none⟩) (by kernel_rfl) rfl (by rfl) fun K hK => ?_
 go_simp
 refine (nonceOf_any n HN.out _).mono ?_
 rintro e w3 ⟨v3, rfl, hN3⟩
 obtain ⟨a3, k3, rfl, -⟩ := id hN3.rd
 refine hK.out _ _ hN3.2 ?_
 clear hK K
 try simp only [Act.put, putA, putB, putC]
 refine wpE_t (i := 7) (oi := ⟨some 14, .build 66 #[(0, .tmp 10), (1, .tmp 12), (2, .tmp 13)], 66, "cipher.go:67", #[⟨3, .data⟩, ⟨5, .data⟩, ⟨6, .data⟩], none⟩) (v := ?_) ?_ ?_
 rotate_left
 ·intro W hW; refine Eq.trans (exec_build 66 #[(0, .tmp 10), (1, .tmp 12), (2, .tmp 13)] (by rfl) #[(0, .slice ak lk ck), (1, .slice a3 (ncL n).length k3), (2, .slice aa la ca)] (by go_simp) (.agg #[.slice ak lk ck, .slice a3 (ncL n).length k3, .slice aa la ca]) (build_sp _ _ _ _ _ _ _ _ _ _)) ?_; with_reducible rfl
 try simp only [Act.put, putA, putB, putC]
 refine wpE_last (o := ⟨none, .store 66 (.tmp 6) (.tmp 14), 0, "cipher.go:67", #[⟨7, .data⟩, ⟨5, .chain⟩, ⟨0, .phase⟩, ⟨1, .phase⟩, ⟨2, .phase⟩, ⟨3, .phase⟩, ⟨4, .phase⟩, ⟨5, .phase⟩, ⟨6, .phase⟩, ⟨7, .phase⟩], none⟩) (by kernel_rfl) (by kernel_rfl) rfl (by rfl) fun K hK => ?_
 refine wp_store_part 66 _ _ rfl rfl (spC (.slice ak lk ck) (.slice a3 (ncL n).length k3) (.slice aa la ca)) rfl [] (spC (.slice none 0 0) (.slice none 0 0) (.slice none 0 0)) [] (spC (.slice ak lk ck) (.slice a3 (ncL n).length k3) (.slice aa la ca)) (r1.drew.kept hN3.2) (wholeS _) (wholeS _) rfl rfl (info_sp (.slice none 0 0) (.slice none 0 0) (.slice none 0 0)) (spC_all _ _ _ _ _ _ _ _ _) ?_
 intro w7 r7 hw7
 refine hK.out _ _ ?_
 clear hK K
 try simp only [Act.put, putA, putB, putC]
 have b3 := stepB b1.drew hN3.2
 have HX : Hid (Rd w7 (.slice a3 (ncL n).length k3) (ncL n)) := hN3.rd.past16 (r1.drew.kept hN3.2) (spC_no8 _ _ _ _ _ _ _ _ _) (Chg.of_wrote hw7)
 have HB7 : Hid _ := hw7.below _ _ z1 b3
 clear hN3 b3 r1
 go_wp2_with fail
 refine bodyPost_blk rfl rfl rfl r7 Tryz.underlying66 rfl (info_sp _ _ _) ?_
 exact ⟨_, rfl, HX.out, HB7.out⟩

set_option maxRecDepth 100000 in
set_option maxHeartbeats 2000000 in
theorem stepSeal_any (vk vn va vb : Value) (k n a b : List UInt8) (hla : a.length ≤ 3000000) (hlb : b.length ≤ 3000000) (w : World) (hP : PlT w) (hT : KpT w) (hk : Rd w vk k) (hn : Rd w vn n) (ha : Rd w va a) (hb : Rd w vb b) :
  Calls Tryz.prog 36 #[.agg #[vk, vn, va], vb] w fun e w' => ∃ r, e = .returned (.tuple #[r, .int .i64 (seA k n a b).2]) ∧ New 5 w r (seA k n a b).1 w' := by
 obtain ⟨q, hq⟩ : ∃ q, q = seA k n a b := ⟨_, rfl⟩
 rw [← hq]
 have HQ : Hid (q = seA k n a b) := hq
 obtain ⟨q1, q2⟩ := q
 clear hq
 have HK : Hid (Rd w vk k) := hk
 have HN : Hid (Rd w vn n) := hn
 have HA : Hid (Rd w va a) := ha
 have HB : Hid (Rd w vb b) := hb
 have HLA : Hid (a.length ≤ 3000000) := hla
 have HLB : Hid (b.length ≤ 3000000) := hlb
 have HP : Hid (PlT w) := hP
 have HT : Hid (KpT w) := hT
 clear hla hlb hP hT hk hn ha hb
 go_enter Tryz.func36, Tryz.ntmps36
 go_wp2_with (refine wpList_box_blk rfl 66 _ rfl (spC vk vn va) rfl ?_)
 intro w1 r1 b1 s1
 have c0 : w1.cell? ⟨w.heap.size, 0, none⟩ = some vk := r1.cell 0
 have c1 : w1.cell? ⟨w.heap.size, 1, none⟩ = some vn := r1.cell 1
 have c2 : w1.cell? ⟨w.heap.size, 2, none⟩ = some va := r1.cell 2
 clear r1 s1
 go_wp2_with fail
 refine (aseal_all _ _ _ _ k n a b HLA.out HLB.out _ (HP.out.kept b1) (HT.out.kept b1) (HK.out.kept b1) (HN.out.kept b1) (HA.out.kept b1) (HB.out.kept b1)).mono ?_
 rw [← HQ.out]
 rintro e w2 ⟨v2, rfl, hN2⟩
 have HR : Hid (New 5 w v2 q1 w2) := New.from hN2 b1
 clear hN2 c0 c1 c2
 go_wp2
 go_ret2
 exact ⟨_, rfl, HR.out⟩

set_option maxRecDepth 100000 in
set_option maxHeartbeats 2000000 in
theorem stepOpen_any (vk vn va vb : Value) (k n a b : List UInt8) (hla : a.length ≤ 3000000) (hlb : b.length ≤ 3000000) (w : World) (hP : PlT w) (hT : KpT w) (hk : Rd w vk k) (hn : Rd w vn n) (ha : Rd w va a) (hb : Rd w vb b) :
  Calls Tryz.prog 47 #[.agg #[vk, vn, va], vb] w fun e w' => ∃ r, e = .returned (.tuple #[r, .int .i64 (opA k n a b).2]) ∧ New 5 w r (opA k n a b).1 w' := by
 obtain ⟨q, hq⟩ : ∃ q, q = opA k n a b := ⟨_, rfl⟩
 rw [← hq]
 have HQ : Hid (q = opA k n a b) := hq
 obtain ⟨q1, q2⟩ := q
 clear hq
 have HK : Hid (Rd w vk k) := hk
 have HN : Hid (Rd w vn n) := hn
 have HA : Hid (Rd w va a) := ha
 have HB : Hid (Rd w vb b) := hb
 have HLA : Hid (a.length ≤ 3000000) := hla
 have HLB : Hid (b.length ≤ 3000000) := hlb
 have HP : Hid (PlT w) := hP
 have HT : Hid (KpT w) := hT
 clear hla hlb hP hT hk hn ha hb
 go_enter Tryz.func47, Tryz.ntmps47
 go_wp2_with (refine wpList_box_blk rfl 66 _ rfl (spC vk vn va) rfl ?_)
 intro w1 r1 b1 s1
 have c0 : w1.cell? ⟨w.heap.size, 0, none⟩ = some vk := r1.cell 0
 have c1 : w1.cell? ⟨w.heap.size, 1, none⟩ = some vn := r1.cell 1
 have c2 : w1.cell? ⟨w.heap.size, 2, none⟩ = some va := r1.cell 2
 clear r1 s1
 go_wp2_with fail
 refine (aopen_all _ _ _ _ k n a b HLA.out HLB.out _ (HP.out.kept b1) (HT.out.kept b1) (HK.out.kept b1) (HN.out.kept b1) (HA.out.kept b1) (HB.out.kept b1)).mono ?_
 rw [← HQ.out]
 rintro e w2 ⟨v2, rfl, hN2⟩
 have HR : Hid (New 5 w v2 q1 w2) := New.from hN2 b1
 clear hN2 c0 c1 c2
 go_wp2
 go_ret2
 exact ⟨_, rfl, HR.out⟩
def tkC (c : Cph) (b : List UInt8) (R : List UInt8 × Int) : Cph × List UInt8 × Int :=
 if c.key.length = 0 then (c, b, 0) else if c.key.length ≠ 32 then (c, [], 1) else if c.n = 18446744073709551615 then (c, [], 31) else if R.2 = 0 then (⟨c.key, c.n + 1⟩, R.1, 0) else (c, [], R.2)
theorem tkC_cases (c : Cph) (b : List UInt8) (R : List UInt8 × Int) : (c.key.length = 0 ∧ tkC c b R = (c, b, 0)) ∨ (c.key.length ≠ 0 ∧ c.key.length ≠ 32 ∧ tkC c b R = (c, [], 1)) ∨ (c.key.length = 32 ∧ c.n = 18446744073709551615 ∧ tkC c b R = (c, [], 31)) ∨ (c.key.length = 32 ∧ c.n ≠ 18446744073709551615 ∧ R.2 = 0 ∧ tkC c b R = (⟨c.key, c.n + 1⟩, R.1, 0)) ∨ (c.key.length = 32 ∧ c.n ≠ 18446744073709551615 ∧ R.2 ≠ 0 ∧ tkC c b R = (c, [], R.2)) := by
 unfold tkC
 by_cases h0 : c.key.length = 0
 ·exact .inl ⟨h0, if_pos h0⟩
 ·by_cases h1 : c.key.length = 32
  ·by_cases h2 : c.n = 18446744073709551615
   ·exact .inr (.inr (.inl ⟨h1, h2, by rw [if_neg h0, if_neg (by omega), if_pos h2]⟩))
   ·by_cases h3 : R.2 = 0
    ·exact .inr (.inr (.inr (.inl ⟨h1, h2, h3, by rw [if_neg h0, if_neg (by omega), if_neg h2, if_pos h3]⟩)))
    ·exact .inr (.inr (.inr (.inr ⟨h1, h2, h3, by rw [if_neg h0, if_neg (by omega), if_neg h2, if_neg h3]⟩)))
  ·exact .inr (.inl ⟨h0, h1, by rw [if_neg h0, if_pos h1]⟩)
theorem seC_tk (c : Cph) (a t : List UInt8) : seC c a t = tkC c t (seA c.key (ncL c.n) a t) := by
 unfold seC tkC
 split
 ·rfl
 ·split
  ·rfl
  ·split
   ·rfl
   ·rw [seA_fit ⟨by omega, ncL_length _⟩, if_pos rfl]
theorem opA_fit {k n : List UInt8} (h : fitN k n) (a s : List UInt8) : opA k n a s = opQ k n a s := if_pos h
theorem opC_tk (c : Cph) (a t : List UInt8) : opC c a t = tkC c t (opA c.key (ncL c.n) a t) := by
 unfold opC tkC
 split
 ·rfl
 ·split
  ·rfl
  ·split
   ·rfl
   ·rw [opA_fit ⟨by omega, ncL_length _⟩]

theorem RdL.lit1r {w : World} {e : TypeId} {v : Value} {l : List UInt8} {b : Nat} (hb : b = w.heap.size) (h1 : Rd w v l) : RdL (w.alloc (.cells #[v] e)) (.slice (some ⟨b, 0, none⟩) 1 1) [v] [l] :=
 RdL.lit _ _ rfl rfl hb (by simp [maxLen]) rfl (fun i hi => by
  match i with
  | 0 => exact h1
  | i + 1 => exact absurd hi (by simp))
theorem New.one {e : TypeId} {w w' : World} {v : Value} {l : List UInt8} (h : New e w v [l].flatten w') : New e w v l w' := by
 simpa using h
theorem enters16 {f : FuncId} {fn : Func} {c : Code} (hf : Tryz.prog.funcs[f]? = some fn) (hn : (fn.name == "runtime.NumGoroutine") = false) (hb : fn.body = some c) (args : Array Value) (w : World) : (callFunc f args).run Tryz.prog w = .ok (.enter f args) w := enters_of hf hn hb args w

set_option maxRecDepth 100000 in
set_option maxHeartbeats 4000000 in
theorem ctake_any (K : FuncId) (hE : ∀ (args : Array Value) (w : World), (callFunc K args).run Tryz.prog w = .ok (.enter K args) w)
  (c : Cph) (hn : c.n < 18446744073709551616) (b : List UInt8) (hlb : b.length ≤ 3000000) (R : List UInt8 × Int) (g o : Nat) (bt : TypeId) (hbt : 5 ≠ bt) (pre post : List Value) (ho : pre.length = o) (ak aa : Option Addr) (ck la ca : Nat) (vb : Value) (w : World)
  (hB : BlkAt g bt (inB pre post (.slice ak c.key.length ck) c.n) w) (hk : Rd w (.slice ak c.key.length ck) c.key) (hb : Rd w vb b)
  (hK : ∀ W vn, Below w.heap.size w W → Rd W vn (ncL c.n) → Calls Tryz.prog K #[.agg #[.slice ak c.key.length ck, vn, .slice aa la ca], vb] W fun e w' => ∃ r, e = .returned (.tuple #[r, .int .i64 R.2]) ∧ New 5 W r R.1 w') :
  Calls Tryz.prog 44 #[.pointer (some ⟨g, o, none⟩), .func (.func K) #[] #[], .slice aa la ca, vb] w fun e w' => ∃ x, e = .returned (.tuple #[x, .int .i64 (tkC c b R).2.2]) ∧ Ow 5 w.heap.size x (tkC c b R).2.1 w' ∧ Chg (fun i => i = g) w w' ∧ BlkAt g bt (inB pre post (.slice ak c.key.length ck) (tkC c b R).1.n) w' := by
 have hcase := tkC_cases c b R
 obtain ⟨key, n⟩ := c
 obtain ⟨R1, R2⟩ := R
 generalize tkC ⟨key, n⟩ b (R1, R2) = T at hcase ⊢
 obtain ⟨-, -, -, hk2, hk3, -, -⟩ := id hk
 obtain ⟨ab, cb, rfl, -⟩ := id hb
 subst ho
 replace hB : BlkAt g bt (inB pre post (.slice ak key.length ck) n) w := hB
 have c0 : w.cell? ⟨g, pre.length, none⟩ = some (.slice ak key.length ck) := by rw [hB.cell]; exact inB_get0 _ _ _ _
 have c1 : w.cell? ⟨g, pre.length + 1, none⟩ = some (.int .u64 (n : Int)) := by rw [hB.cell]; exact inB_get1 _ _ _ _
 have HB : Hid (BlkAt g bt (inB pre post (.slice ak key.length ck) n) w) := hB
 have HBB : Hid (Rd w (.slice ab b.length cb) b) := hb
 have HK : Hid _ := hK
 have HN : Hid (n < 18446744073709551616) := hn
 have HLB : Hid (b.length ≤ 3000000) := hlb
 have HBT : Hid (5 ≠ bt) := hbt
 clear hB hb hK hn hlb hbt hk
 rcases hcase with ⟨h1, rfl⟩ | ⟨h1, h2, rfl⟩ | ⟨h1, h2, rfl⟩ | ⟨h1, h2, h3, rfl⟩ | ⟨h1, h2, h3, rfl⟩
 ·have e1 : ((key.length : Int) == 0) = true := by rw [show key.length = 0 from h1]; rfl
  clear h1
  go_enter Tryz.func44, Tryz.ntmps44
  go_wp2_with fail
  refine (join_any _ _ _ _ (RdL.lit1r (e := 26) rfl HBB.out) (by have := HLB.out; simp [totL]; omega)).mono ?_
  rintro e w1 ⟨v1, rfl, hN1⟩
  have b1 := stepB (growB _) hN1.2
  have HO : Hid (Ow 5 w.heap.size v1 b w1) := Ow.mono (Ow.of_new hN1.one) (by simp)
  clear hN1
  go_wp2
  go_ret2
  exact ⟨_, rfl, HO.out, Chg.of_below b1, HB.out.kept b1⟩
 ·have h1' : key.length ≠ 0 := h1
  have h2' : key.length ≠ 32 := h2
  have e1 : ((key.length : Int) == 0) = false := by rw [beq_eq_false_iff_ne]; omega
  have e2 : ((key.length : Int) != 32) = true := by simp; omega
  clear h1 h2 h1' h2'
  go_enter Tryz.func44, Tryz.ntmps44
  go_wp2_with fail
  go_ret2
  exact ⟨_, rfl, Ow.nil _ _ _, Chg.refl _ _, HB.out⟩
 ·have h1' : key.length = 32 := h1
  have h2' : n = 18446744073709551615 := h2
  have e1 : ((key.length : Int) == 0) = false := by rw [beq_eq_false_iff_ne]; omega
  have e2 : ((key.length : Int) != 32) = false := by simp; omega
  have e3 : ((n : Int) == 18446744073709551615) = true := by simp; omega
  clear h1 h2 h1' h2'
  go_enter Tryz.func44, Tryz.ntmps44
  go_wp2_with fail
  go_ret2
  exact ⟨_, rfl, Ow.nil _ _ _, Chg.refl _ _, HB.out⟩
 ·have h1' : key.length = 32 := h1
  have h2' : n ≠ 18446744073709551615 := h2
  replace h3 : R2 = 0 := h3
  subst h3
  have e1 : ((key.length : Int) == 0) = false := by rw [beq_eq_false_iff_ne]; omega
  have e2 : ((key.length : Int) != 32) = false := by simp; omega
  have e3 : ((n : Int) == 18446744073709551615) = false := by simp; omega
  obtain ⟨m, hm⟩ : ∃ m : Nat, m = n + 1 := ⟨_, rfl⟩
  have HMm : Hid (m = n + 1) := hm
  have e4 : IntKind.u64.wrap ((n : Int) + 1) = (m : Int) := by rw [IntKind.wrap_u64]; have := HN.out; omega
  have e5 : ((n : Int) + 1) % 18446744073709551616 = (m : Int) := by have := HN.out; omega
  clear h1 h2 h1' h2' hm
  go_enter Tryz.func44, Tryz.ntmps44
  go_wp2_with fail
  refine (swith_any g pre.length ak aa key.length ck la ca n HN.out _ c0).mono ?_
  rintro e w1 ⟨vn, rfl, hvn, b1⟩
  have HV : Hid (Rd w1 vn (ncL n)) := hvn
  clear hvn c0
  go_wp2_with fail
  refine (HK.out _ _ b1 HV.out).mono ?_
  rintro e w2 ⟨v2, rfl, hN2⟩
  have b2 := stepB b1 hN2.2
  have hB2 := HB.out.kept b2
  have c1' : w2.cell? ⟨g, pre.length + 1, none⟩ = some (.int .u64 (n : Int)) := by rw [hB2.cell]; exact inB_get1 _ _ _ _
  have f1 : w2.frozen? ⟨g, pre.length + 1, none⟩ = false := hB2.free _
  have HO : Hid (Ow 5 w.heap.size v2 R1 w2) := Ow.mono (Ow.of_new hN2) b1.size
  have HB2 : Hid _ := hB2
  have HBw : Hid _ := b2
  clear hN2 hB2 b2 b1 c1 HV
  go_wp2_with fail
  go_ret2
  have hw : Wrote g w2 (w2.setCell ⟨g, pre.length + 1, none⟩ (.int .u64 (m : Int))) := Wrote.set _ _ _ _
  have hB3 := BlkAt.set HB2.out (pre.length + 1) (.int .u64 (m : Int))
  rw [inB_set] at hB3
  refine ⟨_, rfl, HO.out.chg HB2.out HBT.out (Chg.of_wrote hw), (Chg.of_below HBw.out).trans (Chg.of_wrote hw), ?_⟩
  rw [HMm.out] at hB3 ⊢
  exact hB3
 ·have h1' : key.length = 32 := h1
  have h2' : n ≠ 18446744073709551615 := h2
  replace h3 : R2 ≠ 0 := h3
  have e1 : ((key.length : Int) == 0) = false := by rw [beq_eq_false_iff_ne]; omega
  have e2 : ((key.length : Int) != 32) = false := by simp; omega
  have e3 : ((n : Int) == 18446744073709551615) = false := by simp; omega
  have e6 : (R2 != 0) = true := by simpa using h3
  clear h1 h2 h1' h2' h3
  go_enter Tryz.func44, Tryz.ntmps44
  go_wp2_with fail
  refine (swith_any g pre.length ak aa key.length ck la ca n HN.out _ c0).mono ?_
  rintro e w1 ⟨vn, rfl, hvn, b1⟩
  have HV : Hid (Rd w1 vn (ncL n)) := hvn
  clear hvn c0
  go_wp2_with fail
  refine (HK.out _ _ b1 HV.out).mono ?_
  rintro e w2 ⟨v2, rfl, hN2⟩
  have b2 := stepB b1 hN2.2
  have HBw : Hid _ := b2
  clear hN2 b2 b1 c1 HV
  go_wp2_with fail
  go_ret2
  exact ⟨_, rfl, Ow.nil _ _ _, Chg.of_below HBw.out, HB.out.kept HBw.out⟩

set_option maxRecDepth 100000 in
set_option maxHeartbeats 2000000 in
theorem cseal_any (c : Cph) (hn : c.n < 18446744073709551616) (ad t : List UInt8) (hla : ad.length ≤ 3000000) (hlt : t.length ≤ 3000000) (g o : Nat) (bt : TypeId) (hbt : 5 ≠ bt) (pre post : List Value) (ho : pre.length = o) (ak : Option Addr) (ck : Nat) (va vt : Value) (w : World)
  (hB : BlkAt g bt (inB pre post (.slice ak c.key.length ck) c.n) w) (hk : Rd w (.slice ak c.key.length ck) c.key) (ha : Rd w va ad) (ht : Rd w vt t) (hP : PlT w) (hT : KpT w) :
  Calls Tryz.prog 31 #[.pointer (some ⟨g, o, none⟩), va, vt] w fun e w' => ∃ x, e = .returned (.tuple #[x, .int .i64 (seC c ad t).2.2]) ∧ Ow 5 w.heap.size x (seC c ad t).2.1 w' ∧ Chg (fun i => i = g) w w' ∧ BlkAt g bt (inB pre post (.slice ak c.key.length ck) (seC c ad t).1.n) w' := by
 rw [seC_tk]
 obtain ⟨aa, ca, rfl, -⟩ := id ha
 have HT : Hid _ := ctake_any 36 (enters16 rfl (by kernel_rfl) rfl) c hn t hlt (seA c.key (ncL c.n) ad t) g o bt hbt pre post ho ak aa ck ad.length ca vt w hB hk ht
  fun W vn bW hvn => stepSeal_any _ _ _ _ c.key (ncL c.n) ad t hla hlt W (hP.kept bW) (hT.kept bW) (hk.kept bW) hvn (ha.kept bW) (ht.kept bW)
 generalize tkC c t (seA c.key (ncL c.n) ad t) = T at HT ⊢
 obtain ⟨c', X, E⟩ := T
 clear hB hk ha ht hP hT hla hlt hn
 go_enter Tryz.func31, Tryz.ntmps31
 go_wp2_with fail
 refine Calls.mono HT.out ?_
 rintro e w1 ⟨x, rfl, h1, h2, h3⟩
 have H1 : Hid _ := h1
 have H2 : Hid _ := h2
 have H3 : Hid _ := h3
 clear h1 h2 h3
 go_wp2
 go_ret2
 exact ⟨_, rfl, H1.out, H2.out, H3.out⟩

set_option maxRecDepth 100000 in
set_option maxHeartbeats 2000000 in
theorem copen_any (c : Cph) (hn : c.n < 18446744073709551616) (ad t : List UInt8) (hla : ad.length ≤ 3000000) (hlt : t.length ≤ 3000000) (g o : Nat) (bt : TypeId) (hbt : 5 ≠ bt) (pre post : List Value) (ho : pre.length = o) (ak : Option Addr) (ck : Nat) (va vt : Value) (w : World)
  (hB : BlkAt g bt (inB pre post (.slice ak c.key.length ck) c.n) w) (hk : Rd w (.slice ak c.key.length ck) c.key) (ha : Rd w va ad) (ht : Rd w vt t) (hP : PlT w) (hT : KpT w) :
  Calls Tryz.prog 33 #[.pointer (some ⟨g, o, none⟩), va, vt] w fun e w' => ∃ x, e = .returned (.tuple #[x, .int .i64 (opC c ad t).2.2]) ∧ Ow 5 w.heap.size x (opC c ad t).2.1 w' ∧ Chg (fun i => i = g) w w' ∧ BlkAt g bt (inB pre post (.slice ak c.key.length ck) (opC c ad t).1.n) w' := by
 rw [opC_tk]
 obtain ⟨aa, ca, rfl, -⟩ := id ha
 have HT : Hid _ := ctake_any 47 (enters16 rfl (by kernel_rfl) rfl) c hn t hlt (opA c.key (ncL c.n) ad t) g o bt hbt pre post ho ak aa ck ad.length ca vt w hB hk ht
  fun W vn bW hvn => stepOpen_any _ _ _ _ c.key (ncL c.n) ad t hla hlt W (hP.kept bW) (hT.kept bW) (hk.kept bW) hvn (ha.kept bW) (ht.kept bW)
 generalize tkC c t (opA c.key (ncL c.n) ad t) = T at HT ⊢
 obtain ⟨c', X, E⟩ := T
 clear hB hk ha ht hP hT hla hlt hn
 go_enter Tryz.func33, Tryz.ntmps33
 go_wp2_with fail
 refine Calls.mono HT.out ?_
 rintro e w1 ⟨x, rfl, h1, h2, h3⟩
 have H1 : Hid _ := h1
 have H2 : Hid _ := h2
 have H3 : Hid _ := h3
 clear h1 h2 h3
 go_wp2
 go_ret2
 exact ⟨_, rfl, H1.out, H2.out, H3.out⟩
theorem rkC_ways (c : Cph) : (c.key.length ≠ 32 ∧ (rkC c).key = c.key ∧ seA c.key (ncL 18446744073709551615) [] (List.replicate 32 0) = ([], 1)) ∨ (c.key.length = 32 ∧ (rkC c).key = (seL c.key (ncL 18446744073709551615) [] (List.replicate 32 0)).take 32 ∧ seA c.key (ncL 18446744073709551615) [] (List.replicate 32 0) = (seL c.key (ncL 18446744073709551615) [] (List.replicate 32 0), 0)) := by
 unfold rkC
 by_cases h : c.key.length = 32
 ·exact .inr ⟨h, by rw [if_pos h], seA_fit ⟨h, ncL_length _⟩ _ _⟩
 ·exact .inl ⟨h, by rw [if_neg h], seA_no (fun q => h q.1) _ _⟩
theorem rkC_len (c : Cph) (h : c.key.length = 32) : (rkC c).key.length = 32 := by
 unfold rkC
 rw [if_pos h]
 show (List.take 32 _).length = 32
 rw [List.length_take, seL_len, List.length_replicate]
 rfl
theorem cellT {w W : World} {p : Addr} {v : Value} (h : w.cell? p = some v) (hb : Below w.heap.size w W) : W.cell? p = some v := by
 rw [hb.cell (World.block_lt_of_cell? _ _ h)]
 exact h

set_option maxRecDepth 100000 in
set_option maxHeartbeats 4000000 in
theorem crekey_any (c : Cph) (g o : Nat) (bt : TypeId) (hbt : 5 ≠ bt) (pre post : List Value) (ho : pre.length = o) (ak : Option Addr) (ck : Nat) (w : World)
  (hB : BlkAt g bt (inB pre post (.slice ak c.key.length ck) c.n) w) (hk : Rd w (.slice ak c.key.length ck) c.key) (hP : PlT w) (hT : KpT w) :
  Calls Tryz.prog 22 #[.pointer (some ⟨g, o, none⟩)] w fun e w' => e = .returned (.tuple #[]) ∧ ∃ x, Rd w' x (rkC c).key ∧ Chg (fun i => i = g) w w' ∧ BlkAt g bt (inB pre post x c.n) w' := by
 have hways := rkC_ways c
 obtain ⟨key, n⟩ := c
 subst ho
 replace hB : BlkAt g bt (inB pre post (.slice ak key.length ck) n) w := hB
 replace hk : Rd w (.slice ak key.length ck) key := hk
 have c0 : w.cell? ⟨g, pre.length, none⟩ = some (.slice ak key.length ck) := by rw [hB.cell]; exact inB_get0 _ _ _ _
 have HB : Hid (BlkAt g bt (inB pre post (.slice ak key.length ck) n) w) := hB
 have HK : Hid (Rd w (.slice ak key.length ck) key) := hk
 have HP : Hid (PlT w) := hP
 have HT : Hid (KpT w) := hT
 have HBT : Hid (5 ≠ bt) := hbt
 show Calls _ _ _ _ fun e w' => e = .returned (.tuple #[]) ∧ ∃ x, Rd w' x (rkC ⟨key, n⟩).key ∧ Chg (fun i => i = g) w w' ∧ BlkAt g bt (inB pre post x n) w'
 replace hways : (key.length ≠ 32 ∧ (rkC ⟨key, n⟩).key = key ∧ seA key (ncL 18446744073709551615) [] (List.replicate 32 0) = ([], 1)) ∨ (key.length = 32 ∧ (rkC ⟨key, n⟩).key = (seL key (ncL 18446744073709551615) [] (List.replicate 32 0)).take 32 ∧ seA key (ncL 18446744073709551615) [] (List.replicate 32 0) = (seL key (ncL 18446744073709551615) [] (List.replicate 32 0), 0)) := hways
 generalize (rkC ⟨key, n⟩).key = S at hways ⊢
 have HSL : Hid (32 ≤ (seL key (ncL 18446744073709551615) [] (List.replicate 32 0)).length) := by show _ ≤ _; rw [seL_len, List.length_replicate]; omega
 generalize hD : seL key (ncL 18446744073709551615) [] (List.replicate 32 0) = D at hways HSL
 have HW : Hid _ := hways
 clear hB hk hP hT hbt hways hD
 obtain ⟨q, hq⟩ : ∃ q, q = seA key (ncL 18446744073709551615) [] (List.replicate 32 0) := ⟨_, rfl⟩
 rw [← hq] at HW
 have HQ : Hid (q = seA key (ncL 18446744073709551615) [] (List.replicate 32 0)) := hq
 clear hq
 obtain ⟨q1, q2⟩ := q
 go_enter Tryz.func22, Tryz.ntmps22
 go_upto_region 1 with fail
 go_cut [2, 3] (fun v2 v3 wx => v3 = .int .i64 q2 ∧ ∃ (a : Option Addr) (L c : Nat), v2 = .slice a L c ∧ Hid (New 5 w (.slice a L c) q1 wx))
 case first =>
  have hB : Below w.heap.size w w.drew := (Below.refl _ _).drew
  refine wpB_begin (Below.refl w.heap.size w) (by kernel_rfl) ?_
  refine wpB_t (hb := hB) (i := 0) (oi := ⟨some 7, .move (.tmp 0), 64, "cipher.go:36", #[], none⟩) (v := ?_) ?_ ?_
  rotate_left
  ·intro W hW; go_simp <;> with_reducible rfl
  try simp only [Act.put, putA, putB, putC]
  refine wpB_fork (i := 1) (j := 2) (oi := ⟨some 8, .call { callee := .value (.func 35), args := #[.tmp 7, .const (.int .u64 18446744073709551615), .const (.slice none 0 0)], argTypes := #[64, 27, 26] }, 66, "cipher.go:36", #[⟨0, .data⟩], none⟩) (oj := ⟨some 9, .makeSlice 26 (.const (.int .i64 32)) (.const (.int .i64 32)), 26, "cipher.go:36", #[], none⟩) (by kernel_rfl) rfl rfl (by rfl) (by rfl) (fun K hK => ?_) (fun K hK => ?_)
  ·go_simp
   refine (swith_any g pre.length ak none key.length ck 0 0 18446744073709551615 (by decide) _ (cellT c0 hB)).mono ?_
   rintro e ws ⟨vn, rfl, hS, bs⟩
   replace hB := stepB hB bs
   try replace hM := Rd.kept hM bs
   refine hK.out _ _ hB ?_
   clear hK K
   try simp only [Act.put, putA, putB, putC]
   refine wpB_do (i := 2) (o := ⟨some 9, .makeSlice 26 (.const (.int .i64 32)) (.const (.int .i64 32)), 26, "cipher.go:36", #[], none⟩) (by kernel_rfl) rfl (by rfl) fun K hK => ?_
   refine wp_make_own _ _ 26 rfl Tryz.underlying26 infoU8 32 rfl rfl (by decide) ?_
   intro wm hNm
   have hM := hNm.rd
   replace hB := stepB hB hNm.2
   try replace hS := Rd.kept hS hNm.2
   refine hK.out _ _ hB ?_
   clear hK K
   try simp only [Act.put, putA, putB, putC]
   refine wpB_do (i := 3) (o := ⟨some 10, .call { callee := .value (.func 36), args := #[.tmp 8, .tmp 9], argTypes := #[66, 26] }, 38, "cipher.go:36", #[⟨1, .data⟩, ⟨2, .data⟩, ⟨1, .chain⟩], none⟩) (by kernel_rfl) rfl (by rfl) fun K hK => ?_
   go_simp
   refine (stepSeal_any _ _ _ _ key (ncL 18446744073709551615) [] (List.replicate 32 0) (by decide) (by decide) _ (HP.out.kept hB) (HT.out.kept hB) (Rd.kept HK.out hB) hS (Rd.nil _) hM).mono ?_
   rw [← HQ.out]
   rintro e wj ⟨vj, rfl, hNj⟩
   have hJ := hNj.rd
   obtain ⟨aj, cj, rfl, -⟩ := id hJ
   have HJ : Hid (New 5 w _ _ wj) := hNj.from hB
   replace hB := stepB hB hNj.2
   clear hJ hNj
   refine hK.out _ _ hB ?_
   clear hK K
   try simp only [Act.put, putA, putB, putC]
   refine wpB_t (hb := hB) (i := 4) (oi := ⟨some 6, .move (.tmp 10), 38, "cipher.go:36", #[⟨3, .data⟩], none⟩) (v := ?_) ?_ ?_
   rotate_left
   ·intro W hW; go_simp <;> with_reducible rfl
   try simp only [Act.put, putA, putB, putC]
   refine wpB_t (hb := hB) (i := 5) (oi := ⟨some 11, .extract (.tmp 6) 0, 26, "cipher.go:36", #[⟨4, .data⟩], none⟩) (v := ?_) ?_ ?_
   rotate_left
   ·intro W hW; go_simp <;> with_reducible rfl
   try simp only [Act.put, putA, putB, putC]
   refine wpB_t (hb := hB) (i := 6) (oi := ⟨some 12, .extract (.tmp 6) 1, 35, "cipher.go:36", #[⟨4, .data⟩, ⟨7, .gcOnly .lateStores⟩], none⟩) (v := ?_) ?_ ?_
   rotate_left
   ·intro W hW; go_simp <;> with_reducible rfl
   try simp only [Act.put, putA, putB, putC]
   refine wpB_t (hb := hB) (i := 7) (oi := ⟨some 2, .assign (.tmp 11), 26, "cipher.go:36", #[⟨5, .data⟩, ⟨3, .chain⟩, ⟨0, .phase⟩, ⟨1, .phase⟩, ⟨2, .phase⟩, ⟨3, .phase⟩, ⟨4, .phase⟩, ⟨5, .phase⟩, ⟨6, .textOnly .lateStores⟩], none⟩) (v := ?_) ?_ ?_
   rotate_left
   ·intro W hW; go_simp <;> with_reducible rfl
   try simp only [Act.put, putA, putB, putC]
   refine wpB_t (hb := hB) (i := 8) (oi := ⟨some 3, .assign (.tmp 12), 35, "cipher.go:36", #[⟨6, .data⟩, ⟨7, .chain⟩, ⟨0, .phase⟩, ⟨1, .phase⟩, ⟨2, .phase⟩, ⟨3, .phase⟩, ⟨4, .phase⟩, ⟨5, .phase⟩, ⟨6, .phase⟩, ⟨7, .phase⟩], none⟩) (v := ?_) ?_ ?_
   rotate_left
   ·intro W hW; go_simp <;> with_reducible rfl
   try simp only [Act.put, putA, putB, putC]
   refine wpB_done (by kernel_rfl) ?_
   go_wp2_with fail
   go_meet
   exact ⟨rfl, _, _, _, rfl, HJ.out⟩
  ·refine wp_make_own _ _ 26 rfl Tryz.underlying26 infoU8 32 rfl rfl (by decide) ?_
   intro wm hNm
   have hM := hNm.rd
   replace hB := stepB hB hNm.2
   try replace hS := Rd.kept hS hNm.2
   refine hK.out _ _ hB ?_
   clear hK K
   try simp only [Act.put, putA, putB, putC]
   refine wpB_do (i := 1) (o := ⟨some 8, .call { callee := .value (.func 35), args := #[.tmp 7, .const (.int .u64 18446744073709551615), .const (.slice none 0 0)], argTypes := #[64, 27, 26] }, 66, "cipher.go:36", #[⟨0, .data⟩], none⟩) (by kernel_rfl) rfl (by rfl) fun K hK => ?_
   go_simp
   refine (swith_any g pre.length ak none key.length ck 0 0 18446744073709551615 (by decide) _ (cellT c0 hB)).mono ?_
   rintro e ws ⟨vn, rfl, hS, bs⟩
   replace hB := stepB hB bs
   try replace hM := Rd.kept hM bs
   refine hK.out _ _ hB ?_
   clear hK K
   try simp only [Act.put, putA, putB, putC]
   refine wpB_do (i := 3) (o := ⟨some 10, .call { callee := .value (.func 36), args := #[.tmp 8, .tmp 9], argTypes := #[66, 26] }, 38, "cipher.go:36", #[⟨1, .data⟩, ⟨2, .data⟩, ⟨1, .chain⟩], none⟩) (by kernel_rfl) rfl (by rfl) fun K hK => ?_
   go_simp
   refine (stepSeal_any _ _ _ _ key (ncL 18446744073709551615) [] (List.replicate 32 0) (by decide) (by decide) _ (HP.out.kept hB) (HT.out.kept hB) (Rd.kept HK.out hB) hS (Rd.nil _) hM).mono ?_
   rw [← HQ.out]
   rintro e wj ⟨vj, rfl, hNj⟩
   have hJ := hNj.rd
   obtain ⟨aj, cj, rfl, -⟩ := id hJ
   have HJ : Hid (New 5 w _ _ wj) := hNj.from hB
   replace hB := stepB hB hNj.2
   clear hJ hNj
   refine hK.out _ _ hB ?_
   clear hK K
   try simp only [Act.put, putA, putB, putC]
   refine wpB_t (hb := hB) (i := 4) (oi := ⟨some 6, .move (.tmp 10), 38, "cipher.go:36", #[⟨3, .data⟩], none⟩) (v := ?_) ?_ ?_
   rotate_left
   ·intro W hW; go_simp <;> with_reducible rfl
   try simp only [Act.put, putA, putB, putC]
   refine wpB_t (hb := hB) (i := 5) (oi := ⟨some 11, .extract (.tmp 6) 0, 26, "cipher.go:36", #[⟨4, .data⟩], none⟩) (v := ?_) ?_ ?_
   rotate_left
   ·intro W hW; go_simp <;> with_reducible rfl
   try simp only [Act.put, putA, putB, putC]
   refine wpB_t (hb := hB) (i := 6) (oi := ⟨some 12, .extract (.tmp 6) 1, 35, "cipher.go:36", #[⟨4, .data⟩, ⟨7, .gcOnly .lateStores⟩], none⟩) (v := ?_) ?_ ?_
   rotate_left
   ·intro W hW; go_simp <;> with_reducible rfl
   try simp only [Act.put, putA, putB, putC]
   refine wpB_t (hb := hB) (i := 7) (oi := ⟨some 2, .assign (.tmp 11), 26, "cipher.go:36", #[⟨5, .data⟩, ⟨3, .chain⟩, ⟨0, .phase⟩, ⟨1, .phase⟩, ⟨2, .phase⟩, ⟨3, .phase⟩, ⟨4, .phase⟩, ⟨5, .phase⟩, ⟨6, .textOnly .lateStores⟩], none⟩) (v := ?_) ?_ ?_
   rotate_left
   ·intro W hW; go_simp <;> with_reducible rfl
   try simp only [Act.put, putA, putB, putC]
   refine wpB_t (hb := hB) (i := 8) (oi := ⟨some 3, .assign (.tmp 12), 35, "cipher.go:36", #[⟨6, .data⟩, ⟨7, .chain⟩, ⟨0, .phase⟩, ⟨1, .phase⟩, ⟨2, .phase⟩, ⟨3, .phase⟩, ⟨4, .phase⟩, ⟨5, .phase⟩, ⟨6, .phase⟩, ⟨7, .phase⟩], none⟩) (v := ?_) ?_ ?_
   rotate_left
   ·intro W hW; go_simp <;> with_reducible rfl
   try simp only [Act.put, putA, putB, putC]
   refine wpB_done (by kernel_rfl) ?_
   go_wp2_with fail
   go_meet
   exact ⟨rfl, _, _, _, rfl, HJ.out⟩
 case rest =>
 obtain ⟨rfl, a4, L4, c4, rfl, HJ⟩ := hcut
 rename World => w4
 rcases HW.out with ⟨h1, h2, h3⟩ | ⟨h1, h2, h3⟩
 ·rw [Prod.mk.injEq] at h3
  obtain ⟨rfl, rfl⟩ := h3
  have HS : Hid (S = key) := h2
  clear HW h1 h2 HQ
  go_wp2_with fail
  refine bodyPost_ret (results_none rfl _ _ _) rfl ?_
  have bE := HJ.out.2
  exact ⟨rfl, _, by rw [HS.out]; exact HK.out.kept bE, Chg.of_below bE, HB.out.kept bE⟩
 ·rw [Prod.mk.injEq] at h3
  obtain ⟨rfl, rfl⟩ := h3
  have HS : Hid (S = q1.take 32) := h2
  have h5 := HJ.out.rd
  obtain ⟨a5, c5, e5, h6, h7, h8, -⟩ := h5
  simp only [Value.slice.injEq] at e5
  obtain ⟨rfl, rfl, rfl⟩ := e5
  have HX : Hid (32 ≤ q1.length ∧ q1.length ≤ c4 ∧ c4 ≤ maxLen ∧ (a4 = none → c4 = 0)) := ⟨HSL.out, h6, h7, h8⟩
  have HR : Hid (Rd w4 (.slice a4 32 c4) (q1.take 32)) := Rd.take HJ.out.rd (n := 32) HSL.out
  have HTL : Hid ((q1.take 32).length = 32) := by show _ = _; rw [List.length_take]; have := HSL.out; omega
  have HBw : Hid _ := HJ.out.2
  clear HW h1 h2 HQ h6 h7 h8 HJ HSL
  generalize q1.length = L at HX ⊢
  generalize q1.take 32 = T at HS HR HTL
  go_wp2_with (refine wpList_val rfl (exec_head _ _ (by rfl) (by rfl) (by rfl) HX.out.1 HX.out.2.1 HX.out.2.2.1 HX.out.2.2.2) ?_)
  go_wp2_with fail
  refine (join_any _ _ _ _ (RdL.lit1r (e := 26) rfl HR.out) (by have := HTL.out; simp [totL]; omega)).mono ?_
  rintro e w5 ⟨v5, rfl, hN5⟩
  replace hN5 := hN5.one
  obtain ⟨a5, d5, rfl, -⟩ := id hN5.rd
  have b5 := stepB (growB _) hN5.2
  have HO : Hid (Ow 5 w.heap.size (.slice a5 T.length d5) T w5) := Ow.mono (Ow.of_new hN5) (by have := HBw.out.size; simp; omega)
  have hB5 := (HB.out.kept HBw.out).kept b5
  have c5 : w5.cell? ⟨g, pre.length, none⟩ = some (.slice ak key.length ck) := by rw [hB5.cell]; exact inB_get0 _ _ _ _
  have f5 : w5.frozen? ⟨g, pre.length, none⟩ = false := hB5.free _
  have HB5 : Hid _ := hB5
  have HBe : Hid _ := stepB HBw.out b5
  clear hN5 hB5 b5 c0 HR HX HBw
  go_wp2_with fail
  go_end0
  have hw : Wrote g w5 (w5.setCell ⟨g, pre.length, none⟩ (.slice a5 T.length d5)) := Wrote.set _ _ _ _
  have hB6 := BlkAt.set HB5.out pre.length (.slice a5 T.length d5)
  rw [inB_set0] at hB6
  refine ⟨rfl, _, ?_, (Chg.of_below HBe.out).trans (Chg.of_wrote hw), hB6⟩
  rw [HS.out]
  exact (HO.out.chg HB5.out HBT.out (Chg.of_wrote hw)).rd
end Go.Proofs.YtdlmmcilembjgaaGreatDoor
