/- Polynomials rounded and spread: contracts of package sample, fourth part. -/
import Derived.Test.YtmhbjaampobcbaaGreatDoorL12b
import Derived.Test.YtmhbjaampobcbaaGreatDoorZz
namespace Go.Proofs.YtmhbjaampobcbaaGreatDoor
open Go.ChangeShapes Go.WideShapes Go.ChangeAt Go.RowKit
set_option linter.unusedSimpArgs false
set_option linter.unusedVariables false

theorem zcomp_all (d x : Int) (hx : In64 x) (w : World) :
  Calls Tryz.prog 124 #[.int .i64 d, .int .i64 x] w fun e w' => e = .returned (.int .i64 ((cpA d x : Nat) : Int)) ∧ Below w.heap.size w w' := by
 by_cases h : 1 ≤ d ∧ d ≤ 11
 ·unfold cpA
  rw [if_pos h]
  refine (zcomp_any d.toNat d x (by omega) (by omega) (by omega) hx w).mono ?_
  rintro e w' ⟨rfl, rfl⟩
  exact ⟨rfl, Below.refl _ _⟩
 ·unfold cpA
  rw [if_neg h]
  refine (zcomp_out d x (by omega) w).mono ?_
  rintro e w' ⟨rfl, rfl⟩
  exact ⟨rfl, Below.refl _ _⟩
theorem zdeco_all (d x : Int) (hx : In64 x) (w : World) :
  Calls Tryz.prog 115 #[.int .i64 d, .int .i64 x] w fun e w' => e = .returned (.int .i64 ((dcA d x : Nat) : Int)) ∧ Below w.heap.size w w' := by
 by_cases h : 1 ≤ d ∧ d ≤ 11
 ·unfold dcA
  rw [if_pos h]
  exact zdeco_any d.toNat d x (by omega) (by omega) (by omega) hx w
 ·unfold dcA
  rw [if_neg h]
  refine (zdeco_out d x (by omega) w).mono ?_
  rintro e w' ⟨rfl, rfl⟩
  exact ⟨rfl, Below.refl _ _⟩

set_option maxRecDepth 100000 in
set_option maxHeartbeats 2000000 in
theorem ssqueeze_any (d : Int) (A : Array Value) (F : Nat → Int) (hF : Po F) (hA : A = ((gI F).map (Value.int .i64)).toArray) (w : World) :
  Calls Tryz.prog 73 #[.int .i64 d, .agg A] w fun e w' => e = .returned (.agg ((gI fun k => ((cpA d (F k) : Nat) : Int)).map (Value.int .i64)).toArray) ∧ Below w.heap.size w w' := by
 have HF : Hid (Po F) := hF
 clear hF
 go_enter Tryz.func73, Tryz.ntmps73
 go_wp2_with (refine wpList_box_row (k := .i64) rfl 58 _ rfl (gI F) (by rw [← hA]; rfl) (gI_ne _) (poMax _) ?_)
 intro w1 r1 b1 s1
 rw [gI_length] at r1
 go_wp2_with (refine wpList_alloc_row (k := .i64) rfl 58 rfl (gI fun _ => 0) (alloc_poS _) (gI_ne _) (poMax _) ?_)
 intro w2 r2 b2 s2
 rw [gI_length] at r2
 replace r1 := r1.kept b2
 have hbw := stepB b1 b2
 have n1 : w.heap.size < w1.heap.size := by have := s1.out; omega
 have n2 : w1.heap.size < w2.heap.size := by have := s2.out; omega
 clear b1 b2 s1 s2 hA
 go_wp2_with (refine wpList_alloc_row (k := .i64) rfl 58 rfl (gI fun _ => 0) (alloc_poS _) (gI_ne _) (poMax _) ?_)
 intro w3 r3 b3 s3
 rw [gI_length] at r3
 replace r1 := r1.kept b3
 replace r2 := r2.kept b3
 replace hbw := stepB hbw b3
 clear b3 s3
 go_wp2
 go_loopw [7] (fun iv wx => ∃ (i : Nat) (G : Nat → Int), i ≤ 256 ∧ iv = .int .i64 (i : Int) ∧ Hid (∀ k, k < i → G k = ((cpA d (F k) : Nat) : Int)) ∧ RowAt .i64 58 w.heap.size 256 (gI F) wx ∧ RowAt .i64 58 w1.heap.size 256 (gI fun _ => 0) wx ∧ RowAt .i64 58 w2.heap.size 256 (gI G) wx ∧ Below w.heap.size w wx) (fun iv _ => 256 - (intOf iv).toNat)
 case atStart => exact ⟨0, fun _ => 0, by omega, rfl, (by show ∀ k, _; intro k hk; omega), r1, r2, r3, hbw⟩
 case round =>
  obtain ⟨i, G, hi, rfl, HG, ra, rz, ro, hbx⟩ := hrel
  clear r1 r2 r3 hbw
  by_cases hlt : i < 256
  ·have hd : decide ((i : Int) < 256) = true := decide_eq_true (by omega)
   have hiI : (i : Int) < 256 := by omega
   have hc := ra.cell (j := i) (by rw [gI_length]; exact hlt)
   rw [gI_get _ hlt] at hc
   have HG5 : Hid (∀ k, k < i + 1 → (if k = i then ((cpA d (F i) : Nat) : Int) else G k) = ((cpA d (F k) : Nat) : Int)) := by
    show ∀ k, _
    intro k hk
    by_cases h : k = i
    ·rw [if_pos h, h]
    ·rw [if_neg h, HG.out k (by omega)]
   have HI : Hid (i < 256) := hlt
   go_wp2_with fail
   refine (zcomp_all d (F i) (HF.out.in64 i) _).mono ?_
   rintro e w3 ⟨rfl, b3⟩
   replace ra := ra.kept b3
   replace rz := rz.kept b3
   replace ro := ro.kept b3
   replace hbx := stepB hbx b3
   generalize cpA d (F i) = z at HG5
   clear b3 hc
   go_wp2_with (refine wpList_store_int rfl _ _ rfl rfl (z : Int) rfl ro (by rw [gI_length]; exact HI.out) ?_)
   intro w8 r8 hw8
   rw [gI_set] at r8
   have ra8 := ra.wrote hw8 (by omega)
   have rz8 := rz.wrote hw8 (by omega)
   have hb8 := hw8.below _ _ (by omega) hbx
   clear ra rz ro hbx hw8
   go_wp2
   go_roundw
   case rel => exact ⟨i + 1, _, by omega, by go_num, HG5, ra8, rz8, r8, hb8⟩
   case measure => simp [intOf] <;> omega
  ·have hie : i = 256 := by omega
   have hd : decide ((i : Int) < 256) = false := decide_eq_false (by omega)
   have hiI : (256 : Int) ≤ (i : Int) := by omega
   have HE : Hid (gI G = gI fun k => ((cpA d (F k) : Nat) : Int)) := by
    show _ = _
    exact gI_congr fun k hk => HG.out k (by omega)
   rw [HE.out] at ro
   clear hie
   go_wp2_with (first | refine wpList_load_row rfl 58 _ rfl rfl ro _ Tryz.underlying58 rfl (poInfoS _) ?_ | (refine wpList_store_row rfl 58 _ _ rfl (gI fun k => ((cpA d (F k) : Nat) : Int)) rfl rfl rz (by rw [gI_length, gI_length]) (poInfoS _) ?_; intro w7 r7 hw7))
   refine bodyPost_row (k := .i64) rfl rfl rfl r7 Tryz.underlying58 rfl (poInfoS _) ?_
   exact ⟨rfl, hw7.below _ _ (by omega) hbx⟩

set_option maxRecDepth 100000 in
set_option maxHeartbeats 2000000 in
theorem sspread_any (d : Int) (A : Array Value) (F : Nat → Int) (hF : Po F) (hA : A = ((gI F).map (Value.int .i64)).toArray) (w : World) :
  Calls Tryz.prog 68 #[.int .i64 d, .agg A] w fun e w' => e = .returned (.agg ((gI fun k => ((dcA d (F k) : Nat) : Int)).map (Value.int .i64)).toArray) ∧ Below w.heap.size w w' := by
 have HF : Hid (Po F) := hF
 clear hF
 go_enter Tryz.func68, Tryz.ntmps68
 go_wp2_with (refine wpList_box_row (k := .i64) rfl 58 _ rfl (gI F) (by rw [← hA]; rfl) (gI_ne _) (poMax _) ?_)
 intro w1 r1 b1 s1
 rw [gI_length] at r1
 go_wp2_with (refine wpList_alloc_row (k := .i64) rfl 58 rfl (gI fun _ => 0) (alloc_poS _) (gI_ne _) (poMax _) ?_)
 intro w2 r2 b2 s2
 rw [gI_length] at r2
 replace r1 := r1.kept b2
 have hbw := stepB b1 b2
 have n1 : w.heap.size < w1.heap.size := by have := s1.out; omega
 have n2 : w1.heap.size < w2.heap.size := by have := s2.out; omega
 clear b1 b2 s1 s2 hA
 go_wp2_with (refine wpList_alloc_row (k := .i64) rfl 58 rfl (gI fun _ => 0) (alloc_poS _) (gI_ne _) (poMax _) ?_)
 intro w3 r3 b3 s3
 rw [gI_length] at r3
 replace r1 := r1.kept b3
 replace r2 := r2.kept b3
 replace hbw := stepB hbw b3
 clear b3 s3
 go_wp2
 go_loopw [7] (fun iv wx => ∃ (i : Nat) (G : Nat → Int), i ≤ 256 ∧ iv = .int .i64 (i : Int) ∧ Hid (∀ k, k < i → G k = ((dcA d (F k) : Nat) : Int)) ∧ RowAt .i64 58 w.heap.size 256 (gI F) wx ∧ RowAt .i64 58 w1.heap.size 256 (gI fun _ => 0) wx ∧ RowAt .i64 58 w2.heap.size 256 (gI G) wx ∧ Below w.heap.size w wx) (fun iv _ => 256 - (intOf iv).toNat)
 case atStart => exact ⟨0, fun _ => 0, by omega, rfl, (by show ∀ k, _; intro k hk; omega), r1, r2, r3, hbw⟩
 case round =>
  obtain ⟨i, G, hi, rfl, HG, ra, rz, ro, hbx⟩ := hrel
  clear r1 r2 r3 hbw
  by_cases hlt : i < 256
  ·have hd : decide ((i : Int) < 256) = true := decide_eq_true (by omega)
   have hiI : (i : Int) < 256 := by omega
   have hc := ra.cell (j := i) (by rw [gI_length]; exact hlt)
   rw [gI_get _ hlt] at hc
   have HG5 : Hid (∀ k, k < i + 1 → (if k = i then ((dcA d (F i) : Nat) : Int) else G k) = ((dcA d (F k) : Nat) : Int)) := by
    show ∀ k, _
    intro k hk
    by_cases h : k = i
    ·rw [if_pos h, h]
    ·rw [if_neg h, HG.out k (by omega)]
   have HI : Hid (i < 256) := hlt
   go_wp2_with fail
   refine (zdeco_all d (F i) (HF.out.in64 i) _).mono ?_
   rintro e w3 ⟨rfl, b3⟩
   replace ra := ra.kept b3
   replace rz := rz.kept b3
   replace ro := ro.kept b3
   replace hbx := stepB hbx b3
   generalize dcA d (F i) = z at HG5
   clear b3 hc
   go_wp2_with (refine wpList_store_int rfl _ _ rfl rfl (z : Int) rfl ro (by rw [gI_length]; exact HI.out) ?_)
   intro w8 r8 hw8
   rw [gI_set] at r8
   have ra8 := ra.wrote hw8 (by omega)
   have rz8 := rz.wrote hw8 (by omega)
   have hb8 := hw8.below _ _ (by omega) hbx
   clear ra rz ro hbx hw8
   go_wp2
   go_roundw
   case rel => exact ⟨i + 1, _, by omega, by go_num, HG5, ra8, rz8, r8, hb8⟩
   case measure => simp [intOf] <;> omega
  ·have hie : i = 256 := by omega
   have hd : decide ((i : Int) < 256) = false := decide_eq_false (by omega)
   have hiI : (256 : Int) ≤ (i : Int) := by omega
   have HE : Hid (gI G = gI fun k => ((dcA d (F k) : Nat) : Int)) := by
    show _ = _
    exact gI_congr fun k hk => HG.out k (by omega)
   rw [HE.out] at ro
   clear hie
   go_wp2_with (first | refine wpList_load_row rfl 58 _ rfl rfl ro _ Tryz.underlying58 rfl (poInfoS _) ?_ | (refine wpList_store_row rfl 58 _ _ rfl (gI fun k => ((dcA d (F k) : Nat) : Int)) rfl rfl rz (by rw [gI_length, gI_length]) (poInfoS _) ?_; intro w7 r7 hw7))
   refine bodyPost_row (k := .i64) rfl rfl rfl r7 Tryz.underlying58 rfl (poInfoS _) ?_
   exact ⟨rfl, hw7.below _ _ (by omega) hbx⟩
end Go.Proofs.YtmhbjaampobcbaaGreatDoor
