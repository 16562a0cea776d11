/- A window that is none, and one to which none came: the law's walk. -/
import Derived.Test.YtmgkocoemgpgbaaAw20
namespace Go.Proofs.Ytmgkocoemgpgbaa
open Go.ChangeShapes Go.WideShapes Go.ChangeAt Go.RowKit
set_option linter.unusedSimpArgs false
set_option linter.unusedVariables false

theorem mk_none (n : Nat) : mkL [] n = ([n], 0) := by
  unfold mkL
  rw [if_pos (cm_none n)]
  rfl
theorem mk_again (l : List Nat) {n : Nat} (h : n ∈ l) : mkL l n = (l, 43) := by
  have e : cmE l n = 43 := by unfold cmE; rw [if_pos h]
  unfold mkL
  rw [if_neg (by rw [e]; decide), e]

set_option maxRecDepth 100000 in
set_option maxHeartbeats 4000000 in
theorem none_walk (A : Int) (hA : (Lit.int .u64 A).wf = true) (w : World) : Calls Try.prog 5 #[.int .u64 A] w fun e w' => e = .returned (.bool true) ∧ Below w.heap.size w w' := by
  obtain ⟨n, rfl, hn⟩ := one20 hA
  clear hA
  go_enter Try.func5, Try.ntmps5
  go_wp2_with fail
  refine (awake_any w).mono ?_
  rintro e wa ⟨rfl, ba⟩
  have HB : Hid (Below w.heap.size w wa) := ba
  clear ba
  go_wp2_with (refine wpList_alloc_blk rfl 27 rfl (wnC 0 0 0) (alloc_wn _) ?_)
  intro w1 r1 b1 s1
  have hW := WnB.start HB.out r1 b1
  generalize wa.heap.size = g at hW ⊢
  clear r1 b1 s1 HB
  go_wp2_with fail
  refine (wtop_none _).mono ?_
  rintro e w2 ⟨rfl, rfl⟩
  go_wp2_with fail
  refine (wtop_any g [] _ hW.win).mono ?_
  rintro e w3 ⟨rfl, rfl⟩
  go_wp2_with fail
  refine (wcheck_none n _).mono ?_
  rintro e w4 ⟨rfl, rfl⟩
  go_wp2_with fail
  refine (wmark_none n _).mono ?_
  rintro e w5 ⟨rfl, rfl⟩
  go_wp2_with fail
  refine (wcheck_any g [] n _ rfl hn _ hW.win).mono ?_
  rintro e w6 ⟨rfl, rfl⟩
  rw [cm_none]
  go_wp2_with fail
  refine (hW.mark n _ rfl hn).mono ?_
  rintro e w7 ⟨rfl, hW7, -⟩
  rw [mk_none] at hW7 ⊢
  clear hW
  go_wp2_with fail
  refine (hW7.mark n _ rfl hn).mono ?_
  rintro e w8 ⟨rfl, hW8, -⟩
  rw [mk_again [n] (by simp)] at hW8 ⊢
  go_wp2
  go_ret
  exact ⟨rfl, hW8.below⟩
end Go.Proofs.Ytmgkocoemgpgbaa
