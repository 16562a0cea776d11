/- Which piece may be, and a message's pieces: contracts of the reference of layer 19, seventh part. -/
import Derived.Test.YtkljklfejaojaaaRef19f
namespace Go.Proofs.Ytkljklfejaojaaa
open Go.ChangeShapes Go.WideShapes Go.ChangeAt Go.RowKit
set_option linter.unusedSimpArgs false
set_option linter.unusedVariables false

set_option maxRecDepth 100000 in
set_option maxHeartbeats 4000000 in
theorem may19_any (msg part parts : Int) (n : Nat) (w : World) :
    Calls Try.prog 38 #[.int .i64 msg, .int .i64 part, .int .i64 parts, .int .i64 (n : Int)] w fun r w' => r = .returned (.bool (mayG msg part parts n)) ∧ w' = w := by
  obtain ⟨N, hN⟩ : ∃ N : Int, N = (n : Int) := ⟨_, rfl⟩
  have HE : Hid (mayG msg part parts n = decide (0 ≤ msg ∧ msg ≤ 7 ∧ 1 ≤ parts ∧ parts ≤ 64 ∧ 0 ≤ part ∧ part < parts ∧ 1 ≤ N ∧ N ≤ 1024 ∧ (N = 1024 ∨ part + 1 = parts))) := by
    show _ = _
    unfold mayG
    rw [hN]
    exact decide_eq_decide.2 (by omega)
  rw [← hN, HE.out]
  clear HE hN
  by_cases h0 : 0 ≤ msg
  case neg =>
    have d0 : decide (0 ≤ msg) = false := decide_eq_false h0
    have HF : Hid (decide (0 ≤ msg ∧ msg ≤ 7 ∧ 1 ≤ parts ∧ parts ≤ 64 ∧ 0 ≤ part ∧ part < parts ∧ 1 ≤ N ∧ N ≤ 1024 ∧ (N = 1024 ∨ part + 1 = parts)) = false) := decide_eq_false (by omega)
    clear h0
    go_enter Try.func38, Try.ntmps38
    go_wp2
    go_ret
    exact ⟨by rw [HF.out]; rfl, rfl⟩
  by_cases h1 : msg ≤ 7
  case neg =>
    have d0 : decide (0 ≤ msg) = true := decide_eq_true h0
    have d1 : decide (msg ≤ 7) = false := decide_eq_false h1
    have HF : Hid (decide (0 ≤ msg ∧ msg ≤ 7 ∧ 1 ≤ parts ∧ parts ≤ 64 ∧ 0 ≤ part ∧ part < parts ∧ 1 ≤ N ∧ N ≤ 1024 ∧ (N = 1024 ∨ part + 1 = parts)) = false) := decide_eq_false (by omega)
    clear h0 h1
    go_enter Try.func38, Try.ntmps38
    go_wp2
    go_ret
    exact ⟨by rw [HF.out]; rfl, rfl⟩
  by_cases h2 : 1 ≤ parts
  case neg =>
    have d0 : decide (0 ≤ msg) = true := decide_eq_true h0
    have d1 : decide (msg ≤ 7) = true := decide_eq_true h1
    have d2 : decide (1 ≤ parts) = false := decide_eq_false h2
    have HF : Hid (decide (0 ≤ msg ∧ msg ≤ 7 ∧ 1 ≤ parts ∧ parts ≤ 64 ∧ 0 ≤ part ∧ part < parts ∧ 1 ≤ N ∧ N ≤ 1024 ∧ (N = 1024 ∨ part + 1 = parts)) = false) := decide_eq_false (by omega)
    clear h0 h1 h2
    go_enter Try.func38, Try.ntmps38
    go_wp2
    go_ret
    exact ⟨by rw [HF.out]; rfl, rfl⟩
  by_cases h3 : parts ≤ 64
  case neg =>
    have d0 : decide (0 ≤ msg) = true := decide_eq_true h0
    have d1 : decide (msg ≤ 7) = true := decide_eq_true h1
    have d2 : decide (1 ≤ parts) = true := decide_eq_true h2
    have d3 : decide (parts ≤ 64) = false := decide_eq_false h3
    have HF : Hid (decide (0 ≤ msg ∧ msg ≤ 7 ∧ 1 ≤ parts ∧ parts ≤ 64 ∧ 0 ≤ part ∧ part < parts ∧ 1 ≤ N ∧ N ≤ 1024 ∧ (N = 1024 ∨ part + 1 = parts)) = false) := decide_eq_false (by omega)
    clear h0 h1 h2 h3
    go_enter Try.func38, Try.ntmps38
    go_wp2
    go_ret
    exact ⟨by rw [HF.out]; rfl, rfl⟩
  by_cases h4 : 0 ≤ part
  case neg =>
    have d0 : decide (0 ≤ msg) = true := decide_eq_true h0
    have d1 : decide (msg ≤ 7) = true := decide_eq_true h1
    have d2 : decide (1 ≤ parts) = true := decide_eq_true h2
    have d3 : decide (parts ≤ 64) = true := decide_eq_true h3
    have d4 : decide (0 ≤ part) = false := decide_eq_false h4
    have HF : Hid (decide (0 ≤ msg ∧ msg ≤ 7 ∧ 1 ≤ parts ∧ parts ≤ 64 ∧ 0 ≤ part ∧ part < parts ∧ 1 ≤ N ∧ N ≤ 1024 ∧ (N = 1024 ∨ part + 1 = parts)) = false) := decide_eq_false (by omega)
    clear h0 h1 h2 h3 h4
    go_enter Try.func38, Try.ntmps38
    go_wp2
    go_ret
    exact ⟨by rw [HF.out]; rfl, rfl⟩
  by_cases h5 : part < parts
  case neg =>
    have d0 : decide (0 ≤ msg) = true := decide_eq_true h0
    have d1 : decide (msg ≤ 7) = true := decide_eq_true h1
    have d2 : decide (1 ≤ parts) = true := decide_eq_true h2
    have d3 : decide (parts ≤ 64) = true := decide_eq_true h3
    have d4 : decide (0 ≤ part) = true := decide_eq_true h4
    have d5 : decide (part < parts) = false := decide_eq_false h5
    have HF : Hid (decide (0 ≤ msg ∧ msg ≤ 7 ∧ 1 ≤ parts ∧ parts ≤ 64 ∧ 0 ≤ part ∧ part < parts ∧ 1 ≤ N ∧ N ≤ 1024 ∧ (N = 1024 ∨ part + 1 = parts)) = false) := decide_eq_false (by omega)
    clear h0 h1 h2 h3 h4 h5
    go_enter Try.func38, Try.ntmps38
    go_wp2
    go_ret
    exact ⟨by rw [HF.out]; rfl, rfl⟩
  by_cases h6 : 1 ≤ N
  case neg =>
    have d0 : decide (0 ≤ msg) = true := decide_eq_true h0
    have d1 : decide (msg ≤ 7) = true := decide_eq_true h1
    have d2 : decide (1 ≤ parts) = true := decide_eq_true h2
    have d3 : decide (parts ≤ 64) = true := decide_eq_true h3
    have d4 : decide (0 ≤ part) = true := decide_eq_true h4
    have d5 : decide (part < parts) = true := decide_eq_true h5
    have d6 : decide (1 ≤ N) = false := decide_eq_false h6
    have HF : Hid (decide (0 ≤ msg ∧ msg ≤ 7 ∧ 1 ≤ parts ∧ parts ≤ 64 ∧ 0 ≤ part ∧ part < parts ∧ 1 ≤ N ∧ N ≤ 1024 ∧ (N = 1024 ∨ part + 1 = parts)) = false) := decide_eq_false (by omega)
    clear h0 h1 h2 h3 h4 h5 h6
    go_enter Try.func38, Try.ntmps38
    go_wp2
    go_ret
    exact ⟨by rw [HF.out]; rfl, rfl⟩
  by_cases h7 : N ≤ 1024
  case neg =>
    have d0 : decide (0 ≤ msg) = true := decide_eq_true h0
    have d1 : decide (msg ≤ 7) = true := decide_eq_true h1
    have d2 : decide (1 ≤ parts) = true := decide_eq_true h2
    have d3 : decide (parts ≤ 64) = true := decide_eq_true h3
    have d4 : decide (0 ≤ part) = true := decide_eq_true h4
    have d5 : decide (part < parts) = true := decide_eq_true h5
    have d6 : decide (1 ≤ N) = true := decide_eq_true h6
    have d7 : decide (N ≤ 1024) = false := decide_eq_false h7
    have HF : Hid (decide (0 ≤ msg ∧ msg ≤ 7 ∧ 1 ≤ parts ∧ parts ≤ 64 ∧ 0 ≤ part ∧ part < parts ∧ 1 ≤ N ∧ N ≤ 1024 ∧ (N = 1024 ∨ part + 1 = parts)) = false) := decide_eq_false (by omega)
    clear h0 h1 h2 h3 h4 h5 h6 h7
    go_enter Try.func38, Try.ntmps38
    go_wp2
    go_ret
    exact ⟨by rw [HF.out]; rfl, rfl⟩
  have d0 : decide (0 ≤ msg) = true := decide_eq_true h0
  have d1 : decide (msg ≤ 7) = true := decide_eq_true h1
  have d2 : decide (1 ≤ parts) = true := decide_eq_true h2
  have d3 : decide (parts ≤ 64) = true := decide_eq_true h3
  have d4 : decide (0 ≤ part) = true := decide_eq_true h4
  have d5 : decide (part < parts) = true := decide_eq_true h5
  have d6 : decide (1 ≤ N) = true := decide_eq_true h6
  have d7 : decide (N ≤ 1024) = true := decide_eq_true h7
  obtain ⟨Q, hQ⟩ : ∃ Q : Int, Q = part + 1 := ⟨_, rfl⟩
  have e1 : IntKind.i64.wrap (part + 1) = Q := by rw [IntWalk.i64_in _ (by omega)]; omega
  by_cases h9 : N = 1024
  · have d9 : (N == 1024) = true := by simp [h9]
    have HF : Hid (decide (0 ≤ msg ∧ msg ≤ 7 ∧ 1 ≤ parts ∧ parts ≤ 64 ∧ 0 ≤ part ∧ part < parts ∧ 1 ≤ N ∧ N ≤ 1024 ∧ (N = 1024 ∨ part + 1 = parts)) = true) := decide_eq_true (by omega)
    clear h0 h1 h2 h3 h4 h5 h6 h7 h9 hQ
    go_enter Try.func38, Try.ntmps38
    go_wp2
    go_ret
    exact ⟨by rw [HF.out]; rfl, rfl⟩
  · have d9 : (N == 1024) = false := by simp [h9]
    by_cases hq : Q = parts
    · have d10 : (Q == parts) = true := by simp [hq]
      have HF : Hid (decide (0 ≤ msg ∧ msg ≤ 7 ∧ 1 ≤ parts ∧ parts ≤ 64 ∧ 0 ≤ part ∧ part < parts ∧ 1 ≤ N ∧ N ≤ 1024 ∧ (N = 1024 ∨ part + 1 = parts)) = true) := decide_eq_true (by omega)
      clear h0 h1 h2 h3 h4 h5 h6 h7 h9 hQ hq
      go_enter Try.func38, Try.ntmps38
      go_wp2
      go_ret
      exact ⟨by rw [HF.out]; rfl, rfl⟩
    · have d10 : (Q == parts) = false := by simp [hq]
      have HF : Hid (decide (0 ≤ msg ∧ msg ≤ 7 ∧ 1 ≤ parts ∧ parts ≤ 64 ∧ 0 ≤ part ∧ part < parts ∧ 1 ≤ N ∧ N ≤ 1024 ∧ (N = 1024 ∨ part + 1 = parts)) = false) := decide_eq_false (by omega)
      clear h0 h1 h2 h3 h4 h5 h6 h7 h9 hQ hq
      go_enter Try.func38, Try.ntmps38
      go_wp2
      go_ret
      exact ⟨by rw [HF.out]; rfl, rfl⟩
end Go.Proofs.Ytkljklfejaojaaa
