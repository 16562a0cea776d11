/- What the document's own Load and Store answer, for whatever reads as bytes: contracts of the reference of layer 1. -/
import Derived.Test.YtonnngndknoljaaRows
import Derived.Test.YtonnngndknoljaaLib
import Derived.Test.YtonnngndknoljaaLibI
import Derived.Deep.QuietTactic
import Derived.BigQuiet
import Derived.WalkSpells
namespace Go.Proofs.Ytonnngndknoljaa
open Go.ChangeShapes Go.WideShapes Go.ChangeAt Go.RowKit
set_option linter.unusedSimpArgs false
set_option linter.unusedVariables false

set_option maxHeartbeats 400000 in
theorem refload_any (v : Value) (l : List UInt8) (w : World) (hr : Rd w v l) :
    Calls Try.prog 23 #[v] w fun e w' => e = .returned (.int .u64 ((leN (l.take 8) : Nat) : Int)) ∧ w' = w := by
  obtain ⟨a, cap, rfl, h2, h3, h4, h5⟩ := hr
  unfold maxLen at h3
  go_enter Try.func23, Try.ntmps23
  go_wp2
  all_goals
    go_loop [3, 5] (fun x i => ∃ k : Nat, k ≤ l.length ∧ k ≤ 8 ∧ i = .int .i64 ((k : Int) - 1) ∧ x = .int .u64 ((leN ((l.take 8).drop k) : Nat) : Int)) (fun _ i => (intOf i + 1).toNat)
    case atStart => 
      first
      | exact ⟨8, by omega, by omega, rfl, valI (by rw [List.drop_eq_nil_of_le (by simp; omega)]; rfl)⟩
      | exact ⟨l.length, by omega, by omega, rfl, valI (by rw [List.drop_eq_nil_of_le (by simp; omega)]; rfl)⟩
    case round =>
      obtain ⟨k, hk, hk8, rfl, rfl⟩ := hrel
      by_cases hlt : 0 < k
      · obtain ⟨j, rfl⟩ : ∃ j, k = j + 1 := ⟨k - 1, by omega⟩
        rcases h5 with rfl | ⟨b, off, rfl, hc⟩
        · simp at hk
        have hck := hc j (by omega)
        have HS : Hid _ := refload_step l j (by omega) (by omega)
        clear hc h4
        go_wp2
        go_round
        case rel => exact ⟨j, by omega, by omega, by go_num, valI (by simpa using HS.out)⟩
        case measure => simp [intOf]
      · go_wp2
        go_ret
        refine ⟨retI ?_, rfl⟩
        have : k = 0 := by omega
        subst this
        rfl

theorem infoU8 : (Try.prog.info? 5).map (fun i => (i.zero, i.size, i.bytes)) = some (some (.int .u8 0), 1, 1) := by kernel_rfl

set_option maxHeartbeats 400000 in
theorem refstore_k (x : Nat) (hx : x < 18446744073709551616) (n : Int) (k : Nat) (hk : k ≤ 8) (hn : (n < 0 ∧ k = 0) ∨ (0 ≤ n ∧ n ≤ 8 ∧ n = k) ∨ (8 < n ∧ k = 8)) (w : World) :
    Calls Try.prog 21 #[.int .u64 x, .int .i64 n] w fun e w' => ∃ v, e = .returned v ∧ New 5 w v ((List.range k).map (stB x)) w' := by
  obtain ⟨i, hi, hz0, hz1, hz2⟩ := info_parts infoU8
  have HK : Hid ((n < 0 ∧ k = 0) ∨ (0 ≤ n ∧ n ≤ 8 ∧ n = k) ∨ (8 < n ∧ k = 8)) := hn
  clear hn
  go_enter Try.func21, Try.ntmps21
  go_wp2
  go_loopw [0, 5, 6] (fun xv v i wr => ∃ j y : Nat, j ≤ k ∧ Hid (y = x / 256 ^ j) ∧ xv = .int .u64 (y : Int) ∧ i = .int .i64 j ∧ New 5 w v ((List.range j).map (stB x)) wr) (fun _ _ i _ => k - (intOf i).toNat)
  case atStart => exact ⟨0, x, Nat.zero_le _, by simp [Hid], rfl, rfl, New.start w⟩
  case round =>
    obtain ⟨j, y, hj, Hy, rfl, rfl, hN⟩ := hrel
    have hy : (0 : Int) ≤ (y : Int) := by omega
    have hy2 : (y : Int) < 18446744073709551616 := by have := Hy.out; have := Nat.div_le_self x (256 ^ j); omega
    by_cases hlt : j < k
    · have h1 : (j : Int) < n := by have := HK.out; omega
      have h2 : (j : Int) < 8 := by omega
      go_wp2_with (at_builtin; go_must (refine wpList_append_new (w := w) rfl _ _ 23 rfl 5 Try.underlying23 infoU8 _ _ rfl (hN.alloc _) _ _ rfl (Rd.lit1 (stB x j) (by rw [← stB_mod, ← Hy.out])) (by simp; omega) ?_))
      intro v' w2 hN2 _
      go_wp2
      go_roundw
      case rel => exact ⟨j + 1, y / 256, by omega, by rw [Hy.out]; exact div_succ x j, by go_num, by go_num, by rw [List.range_succ, List.map_append]; exact hN2⟩
      case measure => simp [intOf]; omega
    · have hjk : j = k := by omega
      subst hjk
      have hno : ¬ (j : Int) < n ∨ ((j : Int) < n ∧ ¬ (j : Int) < 8) := by have := HK.out; omega
      rcases hno with h1 | ⟨h1, h2⟩
      all_goals
        go_wp2
        go_ret
        exact ⟨_, rfl, hN⟩
end Go.Proofs.Ytonnngndknoljaa
