/- What the law FieldAdds answers at every input: the walk. -/
import Derived.Test.YtikkfmghjfddfaaF05j
namespace Go.Proofs.Ytikkfmghjfddfaa
open Go.ChangeShapes Go.WideShapes Go.ChangeAt Go.RowKit
set_option linter.unusedSimpArgs false
set_option linter.unusedVariables false

set_option maxRecDepth 100000 in
set_option maxHeartbeats 4000000 in
theorem adds_walk (Aa : Array Value) (a : List Nat) (ha : El4 a) (hA : Aa = ((nI a).map (Value.int .u64)).toArray) (Ba : Array Value) (b : List Nat) (hb : El4 b) (hB : Ba = ((nI b).map (Value.int .u64)).toArray) (w : World) :
    Calls Try.prog 4 #[.agg Aa, .agg Ba] w fun e w' => e = .returned (.bool true) ∧ Below w.heap.size w w' := by
  go_enter Try.func4, Try.ntmps4
  go_wp2_with (refine wpList_box_row (k := .u64) rfl 24 _ rfl (nI a) (by rw [← hA]; rfl) ha.ne (elMax ha) ?_)
  intro w1 ra b1 s1
  rw [ha.len] at ra
  clear s1
  go_wp2_with (refine wpList_box_row (k := .u64) rfl 24 _ rfl (nI b) (by rw [← hB]; rfl) hb.ne (elMax hb) ?_)
  intro w2 rb b2 s2
  rw [hb.len] at rb
  clear s2
  replace ra := ra.kept b2
  have hbw := stepB b1 b2
  clear b1 b2 hA hB
  go_wp2_with fail
  refine (awake_any _).mono ?_
  rintro e wa ⟨rfl, ba⟩
  replace ra := ra.kept ba
  replace rb := rb.kept ba
  replace hbw := stepB hbw ba
  clear ba
  go_wp2_with (refine wpList_load_row rfl 24 _ rfl rfl ra _ Try.underlying24 rfl (arInfo ha) ?_)
  refine (numR_any _ a ha.1 ha.2 rfl _).mono ?_
  rintro e w3 ⟨v3, rfl, hRa, bn⟩
  replace ra := ra.kept bn
  replace rb := rb.kept bn
  replace hbw := stepB hbw bn
  clear bn
  go_wp2_with (refine wpList_load_row rfl 24 _ rfl rfl rb _ Try.underlying24 rfl (arInfo hb) ?_)
  refine (numR_any _ b hb.1 hb.2 rfl _).mono ?_
  rintro e w4 ⟨v4, rfl, hRb, bn⟩
  replace ra := ra.kept bn
  replace rb := rb.kept bn
  replace hRa := hRa.kept bn
  replace hbw := stepB hbw bn
  clear bn
  go_wp2_with (first | refine wpList_load_row rfl 24 _ rfl rfl ra _ Try.underlying24 rfl (arInfo ha) ?_ | refine wpList_load_row rfl 24 _ rfl rfl rb _ Try.underlying24 rfl (arInfo hb) ?_)
  refine (fadd_any _ _ a b ha hb rfl rfl _).mono ?_
  rintro e w5 ⟨l5, rfl, h5, hv5, bn⟩
  replace ra := ra.kept bn
  replace rb := rb.kept bn
  replace hRa := hRa.kept bn
  replace hRb := hRb.kept bn
  replace hbw := stepB hbw bn
  clear bn
  go_wp2_with fail
  refine (addR_any _ _ _ _ _ hRa hRb).mono ?_
  rintro e w6 ⟨v6, rfl, hR6, bn⟩
  replace ra := ra.kept bn
  replace rb := rb.kept bn
  replace hRa := hRa.kept bn
  replace hRb := hRb.kept bn
  replace hbw := stepB hbw bn
  clear bn
  go_wp2_with fail
  refine (is_true _ l5 _ _ h5 hv5 rfl _ hR6).mono ?_
  rintro e w7 ⟨rfl, bn⟩
  replace ra := ra.kept bn
  replace rb := rb.kept bn
  replace hRa := hRa.kept bn
  replace hRb := hRb.kept bn
  replace hbw := stepB hbw bn
  clear bn
  clear hR6
  go_wp2_with (first | refine wpList_load_row_g (by rfl) 24 _ rfl rfl ra _ Try.underlying24 rfl (arInfo ha) ?_ | refine wpList_load_row_g (by rfl) 24 _ rfl rfl rb _ Try.underlying24 rfl (arInfo hb) ?_)
  refine (fsub_any _ _ a b ha hb rfl rfl _).mono ?_
  rintro e w8 ⟨l8, rfl, h8, hv8, bn⟩
  replace hRa := hRa.kept bn
  replace hRb := hRb.kept bn
  replace hbw := stepB hbw bn
  clear bn
  go_wp2_with fail
  refine (subR_any _ _ _ _ _ hRa hRb).mono ?_
  rintro e w9 ⟨v9, rfl, hR9, bn⟩
  replace hbw := stepB hbw bn
  clear bn
  go_wp2_with fail
  refine (is_true _ l8 _ _ h8 (sub_rest _ _ _ hv8) rfl _ hR9).mono ?_
  rintro e w10 ⟨rfl, bn⟩
  replace hbw := stepB hbw bn
  clear bn
  go_wp2
  go_ret
  exact ⟨rfl, hbw⟩
end Go.Proofs.Ytikkfmghjfddfaa
