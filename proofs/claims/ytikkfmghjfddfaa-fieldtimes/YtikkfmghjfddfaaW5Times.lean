/- What the law FieldTimes answers at every input: the walk. -/
import Derived.Test.YtikkfmghjfddfaaF05j
namespace Go.Proofs.Ytikkfmghjfddfaa
open Go.ChangeShapes Go.WideShapes Go.ChangeAt Go.RowKit
set_option linter.unusedSimpArgs false
set_option linter.unusedVariables false

set_option maxRecDepth 100000 in
set_option maxHeartbeats 4000000 in
theorem times_walk (Aa : Array Value) (a : List Nat) (ha : El4 a) (hA : Aa = ((nI a).map (Value.int .u64)).toArray) (n : Nat) (N : Int) (hn : n < 4294967296) (hN : N = (n : Int)) (w : World) :
    Calls Try.prog 6 #[.agg Aa, .int .u32 N] w fun e w' => e = .returned (.bool true) ∧ Below w.heap.size w w' := by
  subst hN
  have hwn : IntKind.i64.wrap (n : Int) = (n : Int) := IntWalk.i64_in _ (by omega)
  go_enter Try.func6, Try.ntmps6
  go_wp2_with (refine wpList_box_row (k := .u64) rfl 24 _ rfl (nI a) (by rw [← hA]; rfl) ha.ne (elMax ha) ?_)
  intro w1 ra b1 s1
  rw [ha.len] at ra
  clear s1
  have hbw := b1
  clear b1 hA
  go_wp2_with fail
  refine (awake_any _).mono ?_
  rintro e wa ⟨rfl, ba⟩
  replace ra := ra.kept ba
  replace hbw := stepB hbw ba
  clear ba
  go_wp2_with (refine wpList_load_row rfl 24 _ rfl rfl ra _ Try.underlying24 rfl (arInfo ha) ?_)
  refine (numR_any _ a ha.1 ha.2 rfl _).mono ?_
  rintro e w3 ⟨v3, rfl, hRa, bn⟩
  replace ra := ra.kept bn
  replace hbw := stepB hbw bn
  clear bn
  go_wp2_with (refine wpList_load_row rfl 24 _ rfl rfl ra _ Try.underlying24 rfl (arInfo ha) ?_)
  refine (ftimes_any _ a n _ ha hn rfl rfl _).mono ?_
  rintro e w4 ⟨l4, rfl, h4, hv4, bn⟩
  replace ra := ra.kept bn
  replace hRa := hRa.kept bn
  replace hbw := stepB hbw bn
  clear bn
  go_wp2_with fail
  refine (smallR_any n (by omega) _ rfl _).mono ?_
  rintro e w5 ⟨v5, rfl, hR5, bn⟩
  replace ra := ra.kept bn
  replace hRa := hRa.kept bn
  replace hbw := stepB hbw bn
  clear bn
  go_wp2_with fail
  refine (mulR_any _ _ _ _ _ hRa hR5).mono ?_
  rintro e w6 ⟨v6, rfl, hR6, bn⟩
  replace ra := ra.kept bn
  replace hRa := hRa.kept bn
  replace hbw := stepB hbw bn
  clear bn
  clear hR5
  go_wp2_with fail
  refine (is_true _ l4 _ _ h4 (by rw [hv4, Nat.mul_comm]) rfl _ hR6).mono ?_
  rintro e w7 ⟨rfl, bn⟩
  replace ra := ra.kept bn
  replace hRa := hRa.kept bn
  replace hbw := stepB hbw bn
  clear bn
  clear hR6
  go_wp2_with (refine wpList_load_row_g (by rfl) 24 _ rfl rfl ra _ Try.underlying24 rfl (arInfo ha) ?_)
  refine (fsquare_any _ a ha rfl _).mono ?_
  rintro e w8 ⟨l8, rfl, h8, hv8, bn⟩
  replace hRa := hRa.kept bn
  replace hbw := stepB hbw bn
  clear bn
  go_wp2_with fail
  refine (mulR_any _ _ _ _ _ hRa hRa).mono ?_
  rintro e w9 ⟨v9, rfl, hR9, bn⟩
  replace hbw := stepB hbw bn
  clear bn
  go_wp2_with fail
  refine (is_true _ l8 _ _ h8 hv8 rfl _ hR9).mono ?_
  rintro e w10 ⟨rfl, bn⟩
  replace hbw := stepB hbw bn
  clear bn
  go_wp2
  go_ret
  exact ⟨rfl, hbw⟩
end Go.Proofs.Ytikkfmghjfddfaa
