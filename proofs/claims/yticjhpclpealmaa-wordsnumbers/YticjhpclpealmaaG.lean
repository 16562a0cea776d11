/- The walk of the statement on numbers and bytes, out of the contracts. -/
import Derived.Test.YticjhpclpealmaaF
namespace Go.Proofs.Yticjhpclpealmaa
open Go.ChangeShapes Go.WideShapes Go.ChangeAt Go.RowKit

set_option maxHeartbeats 2000000 in
theorem numbers_walk (v : Value) (l : List UInt8) (x : Nat) (hx : x < 18446744073709551616) (n : Int) (w : World) (hr : Rd w v l) :
    Calls Try.prog 3 #[v, .int .u64 (x : Int), .int .i64 n] w fun e w' => e = .returned (.bool true) ∧ Below w.heap.size w w' := by
  obtain ⟨k, hk, hn⟩ : ∃ k : Nat, k ≤ 8 ∧ Hid ((n < 0 ∧ k = 0) ∨ (0 ≤ n ∧ n ≤ 8 ∧ n = k) ∨ (8 < n ∧ k = 8)) := by
    by_cases h1 : n < 0
    · exact ⟨0, by omega, .inl ⟨h1, rfl⟩⟩
    by_cases h2 : n ≤ 8
    · exact ⟨n.toNat, by omega, .inr (.inl ⟨by omega, h2, by omega⟩)⟩
    · exact ⟨8, by omega, .inr (.inr ⟨by omega, rfl⟩)⟩
  go_enter Try.func3, Try.ntmps3
  go_wp2_with fail
  refine (awake_any _).mono ?_
  rintro e w1 ⟨rfl, hB1⟩
  have hr1 : Rd w1 v l := hr.kept hB1
  have hb11 : Below w1.heap.size w1 w1 := Below.refl _ _
  go_wp2_with fail
  have hb1d : Below w1.heap.size w1 w1.drew := hb11.drew
  go_region_with (first
      | (go_at_call 10; refine (load_any v l _ (hr1.kept (by assumption))).mono ?_; rintro e w' ⟨rfl, rfl⟩)
      | (go_at_call 11; refine (refload_any v l _ (hr1.kept (by assumption))).mono ?_; rintro e w' ⟨rfl, rfl⟩)
      | (go_at_call 12; refine (store_k x n k hk hn.out _).mono ?_; rintro e w2 ⟨v2, rfl, hN2⟩; have hb2 : Below w1.heap.size w1 w2 := bstep (by assumption) hN2.2; have hc2 : ∀ W, Below w2.heap.size w2 W → (convert 22 9 v2).run Try.prog W = _ := fun W h => conv_any (hN2.rd.kept h); have hb22 : Below w2.heap.size w2 w2 := Below.refl _ _)
      | (go_at_call 13; refine (refstore_k x hx n k hk hn.out _).mono ?_; rintro e w3 ⟨v3, rfl, hN3⟩; have hb3 : Below w1.heap.size w1 w3 := bstep (by assumption) hN3.2; have hb23 : Below w2.heap.size w2 w3 := hN3.2; have hc3 : ∀ W, Below w3.heap.size w3 W → (convert 22 9 v3).run Try.prog W = _ := fun W h => conv_any (hN3.rd.kept h); have hb33 : Below w3.heap.size w3 w3 := Below.refl _ _))
  all_goals
    go_wp2
    go_ret
    exact ⟨rfl, bstep hB1 hb3⟩
end Go.Proofs.Yticjhpclpealmaa
