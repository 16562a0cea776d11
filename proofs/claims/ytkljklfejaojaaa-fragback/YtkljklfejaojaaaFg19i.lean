/- May a piece be? Is there room? Contracts of package frag, ninth part. -/
import Derived.Test.YtkljklfejaojaaaFg19h
namespace Go.Proofs.Ytkljklfejaojaaa
open Go.ChangeShapes Go.WideShapes Go.ChangeAt Go.RowKit
set_option linter.unusedSimpArgs false
set_option linter.unusedVariables false

set_option maxRecDepth 100000 in
set_option maxHeartbeats 4000000 in
theorem within_is (x lo hi : Int) (b : Bool) (hb : decide (lo ≤ x ∧ x ≤ hi) = b) (w : World) : Calls Try.prog 47 #[.int .i64 x, .int .i64 lo, .int .i64 hi] w fun e w' => e = .returned (.bool b) ∧ w' = w := by
  by_cases h1 : lo ≤ x
  · have hd1 : decide (lo ≤ x) = true := decide_eq_true h1
    have HB : Hid (decide (x ≤ hi) = b) := by
      show _ = _
      rw [← hb]
      simp [h1]
    clear hb
    go_enter Try.func47, Try.ntmps47
    go_wp2
    go_ret
    exact ⟨by rw [← HB.out]; rfl, rfl⟩
  · have hd1 : decide (lo ≤ x) = false := decide_eq_false h1
    have HB : Hid (false = b) := by
      show _ = _
      rw [← hb]
      simp [h1]
    have h2 : x < lo := by omega
    clear hb h1
    go_enter Try.func47, Try.ntmps47
    go_wp2
    go_ret
    exact ⟨by rw [← HB.out]; rfl, rfl⟩
set_option maxRecDepth 100000 in
set_option maxHeartbeats 4000000 in
theorem mayBe_any (msg part parts : Int) (n : Nat) (w : World) : Calls Try.prog 29 #[.int .i64 msg, .int .i64 part, .int .i64 parts, .int .i64 (n : Int)] w fun e w' => e = .returned (.bool (mayG msg part parts n)) ∧ w' = w := by
  obtain ⟨r, hr⟩ : ∃ r, r = mayG msg part parts n := ⟨_, rfl⟩
  have HR : Hid (r = mayG msg part parts n) := hr
  rw [← hr]
  clear hr
  by_cases hA : 0 ≤ msg ∧ msg ≤ 7
  · have dA := decide_eq_true hA
    by_cases hB : 1 ≤ parts ∧ parts ≤ 64
    · have dB := decide_eq_true hB
      have hw : IntKind.i64.wrap (parts - 1) = parts - 1 := IntWalk.i64_in _ (by omega)
      obtain ⟨q, hq⟩ : ∃ q, q = parts - 1 := ⟨_, rfl⟩
      have hw1 : IntKind.i64.wrap (parts - 1) = q := hw.trans hq.symm
      have hw2 : wrap64 (parts - 1) = q := (IntWalk.wrap64_in _ (by omega)).trans hq.symm
      clear hw
      have HQ : Hid (q = parts - 1) := hq
      by_cases hC : 0 ≤ part ∧ part ≤ q
      · have dC := decide_eq_true hC
        by_cases he : part = q
        · have HF : Hid (decide ((1 : Int) ≤ (n : Int) ∧ (n : Int) ≤ 1024) = r) := by
            show _ = _
            rw [HR.out]
            unfold mayG
            exact decide_eq_decide.2 (by omega)
          have heq : (part == q) = true := beq_iff_eq.2 he
          have HA : Hid (decide (0 ≤ msg ∧ msg ≤ 7) = true) := dA
          have HB : Hid (decide (1 ≤ parts ∧ parts ≤ 64) = true) := dB
          have HC : Hid (decide (0 ≤ part ∧ part ≤ q) = true) := dC
          clear dA dB dC hA hB hC hq he HR
          go_enter Try.func29, Try.ntmps29
          go_wp2_with fail
          refine (within_is msg 0 7 true HA.out _).mono ?_
          rintro e w1 ⟨rfl, rfl⟩
          go_wp2_with fail
          refine (within_is parts 1 64 true HB.out _).mono ?_
          rintro e w2 ⟨rfl, rfl⟩
          go_wp2_with fail
          refine (within_is part 0 q true HC.out _).mono ?_
          rintro e w3 ⟨rfl, rfl⟩
          go_wp2_with fail
          refine (within_is (n : Int) 1 1024 r HF.out _).mono ?_
          rintro e w4 ⟨rfl, rfl⟩
          go_wp2
          go_ret
          exact ⟨rfl, rfl⟩
        · have HF : Hid (decide ((1024 : Int) ≤ (n : Int) ∧ (n : Int) ≤ 1024) = r) := by
            show _ = _
            rw [HR.out]
            unfold mayG
            exact decide_eq_decide.2 (by omega)
          have heq : (part == q) = false := beq_eq_false_iff_ne.2 he
          have HA : Hid (decide (0 ≤ msg ∧ msg ≤ 7) = true) := dA
          have HB : Hid (decide (1 ≤ parts ∧ parts ≤ 64) = true) := dB
          have HC : Hid (decide (0 ≤ part ∧ part ≤ q) = true) := dC
          clear dA dB dC hA hB hC hq HR
          go_enter Try.func29, Try.ntmps29
          go_wp2_with fail
          refine (within_is msg 0 7 true HA.out _).mono ?_
          rintro e w1 ⟨rfl, rfl⟩
          go_wp2_with fail
          refine (within_is parts 1 64 true HB.out _).mono ?_
          rintro e w2 ⟨rfl, rfl⟩
          go_wp2_with fail
          refine (within_is part 0 q true HC.out _).mono ?_
          rintro e w3 ⟨rfl, rfl⟩
          go_wp2_with fail
          refine (within_is (n : Int) 1024 1024 r HF.out _).mono ?_
          rintro e w4 ⟨rfl, rfl⟩
          go_wp2
          go_ret
          exact ⟨rfl, rfl⟩
      · have HF : Hid (r = false) := by
          show _ = _
          rw [HR.out]
          unfold mayG
          exact decide_eq_false (by omega)
        have HA : Hid (decide (0 ≤ msg ∧ msg ≤ 7) = true) := dA
        have HB : Hid (decide (1 ≤ parts ∧ parts ≤ 64) = true) := dB
        have HC : Hid (decide (0 ≤ part ∧ part ≤ q) = false) := decide_eq_false hC
        clear dA dB hA hB hC hq HR
        go_enter Try.func29, Try.ntmps29
        go_wp2_with fail
        refine (within_is msg 0 7 true HA.out _).mono ?_
        rintro e w1 ⟨rfl, rfl⟩
        go_wp2_with fail
        refine (within_is parts 1 64 true HB.out _).mono ?_
        rintro e w2 ⟨rfl, rfl⟩
        go_wp2_with fail
        refine (within_is part 0 q false HC.out _).mono ?_
        rintro e w3 ⟨rfl, rfl⟩
        go_wp2
        go_ret
        exact ⟨by rw [HF.out]; rfl, rfl⟩
    · have HF : Hid (r = false) := by
        show _ = _
        rw [HR.out]
        unfold mayG
        exact decide_eq_false (by omega)
      have HA : Hid (decide (0 ≤ msg ∧ msg ≤ 7) = true) := dA
      have HB : Hid (decide (1 ≤ parts ∧ parts ≤ 64) = false) := decide_eq_false hB
      clear dA hA hB HR
      go_enter Try.func29, Try.ntmps29
      go_wp2_with fail
      refine (within_is msg 0 7 true HA.out _).mono ?_
      rintro e w1 ⟨rfl, rfl⟩
      go_wp2_with fail
      refine (within_is parts 1 64 false HB.out _).mono ?_
      rintro e w2 ⟨rfl, rfl⟩
      go_wp2
      go_ret
      exact ⟨by rw [HF.out]; rfl, rfl⟩
  · have HF : Hid (r = false) := by
      show _ = _
      rw [HR.out]
      unfold mayG
      exact decide_eq_false (by omega)
    have HA : Hid (decide (0 ≤ msg ∧ msg ≤ 7) = false) := decide_eq_false hA
    clear hA HR
    go_enter Try.func29, Try.ntmps29
    go_wp2_with fail
    refine (within_is msg 0 7 false HA.out _).mono ?_
    rintro e w1 ⟨rfl, rfl⟩
    go_wp2
    go_ret
    exact ⟨by rw [HF.out]; rfl, rfl⟩
end Go.Proofs.Ytkljklfejaojaaa
