/- Waits double: the law's walk. -/
import Derived.Test.YtliiofjcghdjoaaDoorAw22
namespace Go.Proofs.YtliiofjcghdjoaaDoor
open Go.ChangeShapes Go.WideShapes Go.ChangeAt Go.RowKit
set_option linter.unusedSimpArgs false
set_option linter.unusedVariables false

theorem beqN22 (a b : Nat) : ((a : Int) == (b : Int)) = (a == b) := by
  rw [Bool.eq_iff_iff]
  simp only [beq_iff_eq]
  omega
/-- The last three tests, of any numbers that stand so to one another. -/
theorem dbl_facts (r : Rl) (hr : RlW r) (k : Nat) : ∃ a b f M Y : Nat, a = wtN r (k : Int) ∧ b = wtN r ((k : Int) + 1) ∧ f = wtN r 0 ∧ f = wtN r (-1) ∧ M = (if r.rmax < f then f else r.rmax) ∧ Y = 2 * a % 18446744073709551616 ∧ 0 < a ∧ a ≤ M ∧ ((b = Y ∧ a < b) ∨ (b = Y ∧ ¬ a < b ∧ b = M) ∨ (¬ b = Y ∧ b = M)) ∧ (f = r.retry ∨ (¬ f = r.retry ∧ r.retry = 0 ∧ f = 1)) ∧ a < 18446744073709551616 := by
  have h1 := wt_doubles r k
  have h2 := wt_le r (k : Int)
  have h3 := wt_pos r (k : Int)
  have h4 := moN_two r
  have h5 := wt_first r
  have h6 := moN_lt hr
  have h7 := wt_le r ((k : Int) + 1)
  have h8 : wtN r 0 = wtN r (-1) := by rw [wt_neg r (by omega), wt_neg r (by omega)]
  refine ⟨wtN r (k : Int), wtN r ((k : Int) + 1), wtN r 0, moN r, _, rfl, rfl, rfl, h8, h4, rfl, h3, ?_, ?_, ?_, ?_⟩
  · exact h2
  · omega
  · omega
  · omega

set_option maxRecDepth 100000 in
set_option maxHeartbeats 8000000 in
theorem doubles_walk (r : Rl) (hr : RlW r) (n : Int) (w : World) (hp : PlT w) (hk : KpT w) :
    Calls Tryd.prog 6 #[.agg (rlC r).toArray, .int .i64 n] w fun e w' => e = .returned (.bool true) ∧ Below w.heap.size w w' := by
  have HP : Hid (PlT w ∧ KpT w) := ⟨hp, hk⟩
  have HR : Hid (RlW r) := hr
  obtain ⟨k, hk63, hand⟩ := and_small n 63 (by decide)
  have hand' : bits .and .i64 n 63 = (k : Int) := hand
  obtain ⟨a, b, f, M, Y, ha, hb, hf, hf1, hM, hY, ha0, haM, hbY, hfr, ha64⟩ := dbl_facts r hr k
  have HA : Hid (a = wtN r (k : Int)) := ha
  have HBb : Hid (b = wtN r ((k : Int) + 1)) := hb
  have HF : Hid (f = wtN r 0 ∧ f = wtN r (-1)) := ⟨hf, hf1⟩
  have d1 : decide ((0 : Int) < (a : Int)) = true := decide_eq_true (by omega)
  have d1N : decide (0 < a) = true := decide_eq_true ha0
  have d2 : decide ((a : Int) ≤ (M : Int)) = true := decide_eq_true (by omega)
  have d2N : decide (a ≤ M) = true := decide_eq_true haM
  have e1 : IntKind.u64.wrap (2 * (a : Int)) = (Y : Int) := by rw [IntKind.wrap_u64]; omega
  have e2 : IntKind.i64.wrap ((k : Int) + 1) = (k : Int) + 1 := IntWalk.i64_in _ (by omega)
  obtain ⟨R0, hR0⟩ : ∃ x, x = r.retry := ⟨_, rfl⟩
  obtain ⟨R1, hR1⟩ : ∃ x, x = r.rmax := ⟨_, rfl⟩
  have HC : Hid (R0 = r.retry ∧ R1 = r.rmax) := ⟨hR0, hR1⟩
  rw [← hR0] at hfr
  rw [← hR1] at hM
  have HK : Hid ((k : Int) + 1 ≤ 9223372036854775807) := (by omega : (k : Int) + 1 ≤ 9223372036854775807)
  clear hp hk hr hand ha hb hf hf1 hY ha0 haM ha64 hR0 hR1 hk63
  go_enter Tryd.func6, Tryd.ntmps6
  go_wp2_with (refine wpList_box_blk rfl 24 _ rfl (rlC r) rfl ?_)
  intro w1 r1 b1 s1
  obtain ⟨g, hg⟩ : ∃ n : Nat, n = w.heap.size := ⟨_, rfl⟩
  rw [← hg] at r1 ⊢
  have HR1 : Hid (BlkAt g 24 (rlC r) w1 ∧ Below w.heap.size w w1) := ⟨r1, b1⟩
  clear r1 b1 s1 hg
  go_wp2_with fail
  refine (awake_any w1 (HP.out.1.kept HR1.out.2) (HP.out.2.kept HR1.out.2)).mono ?_
  rintro e w2 ⟨rfl, b2⟩
  have HR2 : Hid (BlkAt g 24 (rlC r) w2 ∧ Below w.heap.size w w2) := ⟨HR1.out.1.kept b2, stepB HR1.out.2 b2⟩
  clear b2 HR1
  go_wp2_with (refine wpList_load_part rfl 24 _ rfl rfl [] (rlC r) [] HR2.out.1 rfl rfl Tryd.underlying24 rfl info_rl ?_)
  refine (cwait_any r HR.out (k : Int) (by have := HK.out; omega) _ rfl _).mono ?_
  rw [← HA.out]
  rintro e w3 ⟨rfl, b3⟩
  have HR3 : Hid (BlkAt g 24 (rlC r) w3 ∧ Below w.heap.size w w3) := ⟨HR2.out.1.kept b3, stepB HR2.out.2 b3⟩
  clear b3 HR2 HA
  go_wp2_with (refine wpList_load_part rfl 24 _ rfl rfl [] (rlC r) [] HR3.out.1 rfl rfl Tryd.underlying24 rfl info_rl ?_)
  refine (cwait_any r HR.out ((k : Int) + 1) HK.out _ rfl _).mono ?_
  rw [← HBb.out]
  rintro e w4 ⟨rfl, b4⟩
  have HR4 : Hid (BlkAt g 24 (rlC r) w4 ∧ Below w.heap.size w w4) := ⟨HR3.out.1.kept b4, stepB HR3.out.2 b4⟩
  clear b4 HR3 HBb
  go_wp2_with (refine wpList_load_part rfl 24 _ rfl rfl [] (rlC r) [] HR4.out.1 rfl rfl Tryd.underlying24 rfl info_rl ?_)
  refine (cwait_any r HR.out 0 (by decide) _ rfl _).mono ?_
  rw [← HF.out.1]
  rintro e w5 ⟨rfl, b5⟩
  have HR5 : Hid (BlkAt g 24 (rlC r) w5 ∧ Below w.heap.size w w5) := ⟨HR4.out.1.kept b5, stepB HR4.out.2 b5⟩
  have c1 : w5.cell? ⟨g, 1, none⟩ = some (.int .u64 (R1 : Int)) := by rw [HC.out.2]; exact HR5.out.1.cell 1
  clear b5 HR4
  have hmost : (decide ((R1 : Int) < (f : Int)) = true ∧ decide (R1 < f) = true ∧ M = f) ∨ (decide ((R1 : Int) < (f : Int)) = false ∧ decide (R1 < f) = false ∧ M = R1) := by
    by_cases h : R1 < f
    · exact .inl ⟨decide_eq_true (by omega), decide_eq_true h, by rw [hM, if_pos h]⟩
    · exact .inr ⟨decide_eq_false (by omega), decide_eq_false h, by rw [hM, if_neg h]⟩
  have hnext : (((b : Int) == (Y : Int)) = true ∧ (b == Y) = true ∧ decide ((a : Int) < (b : Int)) = true ∧ decide (a < b) = true) ∨ (((b : Int) == (Y : Int)) = true ∧ (b == Y) = true ∧ decide ((a : Int) < (b : Int)) = false ∧ decide (a < b) = false ∧ ((b : Int) == (M : Int)) = true ∧ (b == M) = true) ∨ (((b : Int) == (Y : Int)) = false ∧ (b == Y) = false ∧ ((b : Int) == (M : Int)) = true ∧ (b == M) = true) := by
    rcases hbY with ⟨h1, h2⟩ | ⟨h1, h2, h3⟩ | ⟨h1, h2⟩
    · exact .inl ⟨by rw [beqN22]; simpa using h1, by simpa using h1, decide_eq_true (by omega), decide_eq_true h2⟩
    · exact .inr (.inl ⟨by rw [beqN22]; simpa using h1, by simpa using h1, decide_eq_false (by omega), decide_eq_false h2, by rw [beqN22]; simpa using h3, by simpa using h3⟩)
    · exact .inr (.inr ⟨by rw [beqN22]; simpa using h1, by simpa using h1, by rw [beqN22]; simpa using h2, by simpa using h2⟩)
  have hfirst : (((f : Int) == (R0 : Int)) = true ∧ (f == R0) = true ∧ R0 = R0 ∧ f = f) ∨ (((f : Int) == (R0 : Int)) = false ∧ (f == R0) = false ∧ R0 = 0 ∧ f = 1) := by
    rcases hfr with h1 | ⟨h1, h2, h3⟩
    · exact .inl ⟨by rw [beqN22]; simpa using h1, by simpa using h1, rfl, rfl⟩
    · exact .inr ⟨by rw [beqN22]; simpa using h1, by simpa using h1, h2, h3⟩
  have HX : Hid (∀ W, Below w5.heap.size w5 W → W.cell? ⟨g, 0, none⟩ = some (.int .u64 (R0 : Int)) ∧ BlkAt g 24 (rlC r) W) := fun W hW => ⟨by rw [HC.out.1]; exact (HR5.out.1.kept hW).cell 0, HR5.out.1.kept hW⟩
  have HFr : Hid ((((f : Int) == (R0 : Int)) = true ∧ (f == R0) = true ∧ R0 = R0 ∧ f = f) ∨ (((f : Int) == (R0 : Int)) = false ∧ (f == R0) = false ∧ R0 = 0 ∧ f = 1)) := hfirst
  clear hM hbY hfr hfirst
  rcases hmost with ⟨m1, m2, m3⟩ | ⟨m1, m2, m3⟩
  all_goals
    subst m3
    rcases hnext with ⟨n1, n2, n3, n4⟩ | ⟨n1, n2, n3, n4, n5, n6⟩ | ⟨n1, n2, n3, n4⟩
    all_goals
      go_wp2_with (refine wpList_loadRl _ rfl rfl (HX.out w5 (Below.refl _ _)).2 (by go_simp; done) ?_)
      refine (cwait_any r HR.out (-1) (by decide) _ rfl _).mono ?_
      rw [← HF.out.2]
      rintro e w6 ⟨rfl, b6⟩
      have c0 := (HX.out w6 b6).1
      have HB6 : Hid (Below w.heap.size w w6) := stepB HR5.out.2 b6
      clear b6 c1
      rcases HFr.out with ⟨p1, p2, p3, p4⟩ | ⟨p1, p2, p3, p4⟩
      · clear p3 p4
        go_wp2
        go_ret
        exact ⟨rfl, HB6.out⟩
      · subst p3 p4
        go_wp2
        go_ret
        exact ⟨rfl, HB6.out⟩
end Go.Proofs.YtliiofjcghdjoaaDoor
