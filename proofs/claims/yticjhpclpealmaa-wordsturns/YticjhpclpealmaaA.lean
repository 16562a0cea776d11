/- What Load and Store answer, the program's and the document's, for whatever reads as bytes: contracts of four functions, whatever the memory. -/
import Derived.Test.YticjhpclpealmaaRows
import Derived.Test.YticjhpclpealmaaLib
import Derived.Deep.QuietTactic
import Derived.BigQuiet
import Derived.WalkSpells
namespace Go.Proofs.Yticjhpclpealmaa
open Go.ChangeShapes Go.WideShapes Go.ChangeAt Go.RowKit

theorem ret_int {k : IntKind} {a b : Int} (h : a = b) : Ending.returned (.int k a) = .returned (.int k b) := by rw [h]
theorem val_int {k : IntKind} {a b : Int} (h : a = b) : Value.int k a = .int k b := by rw [h]

set_option maxHeartbeats 400000 in
theorem load_any (v : Value) (l : List UInt8) (w : World) (hr : Rd w v l) :
    Calls Try.prog 10 #[v] w fun e w' => e = .returned (.int .u64 ((leN (l.take 8) : Nat) : Int)) ∧ w' = w := by
  obtain ⟨a, cap, rfl, h2, h3, h4, h5⟩ := hr
  unfold maxLen at h3
  go_enter Try.func10, Try.ntmps10
  go_wp2
  all_goals
    go_loop [3, 8] (fun x i => ∃ k : Nat, k ≤ l.length ∧ k ≤ 8 ∧ i = .int .i64 k ∧ x = .int .u64 ((leN (l.take k) : Nat) : Int)) (fun _ i => 8 - (intOf i).toNat)
    case atStart => exact ⟨0, Nat.zero_le _, by omega, rfl, rfl⟩
    case round =>
      obtain ⟨k, hk, hk8, rfl, rfl⟩ := hrel
      by_cases hlt : k < l.length ∧ k < 8
      · obtain ⟨g1, g2⟩ := hlt
        rcases h5 with rfl | ⟨b, off, rfl, hc⟩
        · simp at g1
        have hck := hc k g1
        have hst := load_step l k g1 g2
        have HS : Hid _ := hst
        clear hst hc h4
        go_wp2
        go_round
        case rel => exact ⟨k + 1, by omega, by omega, by go_num, val_int (by simpa [g1] using HS.out)⟩
        case measure => simp [intOf]; omega
      · go_wp2
        go_ret
        refine ⟨ret_int ?_, rfl⟩
        have : k = 8 ∨ k = l.length := by omega
        rcases this with rfl | rfl
        · rfl
        · rw [List.take_of_length_le (Nat.le_refl _), List.take_of_length_le hk8]

set_option maxHeartbeats 400000 in
theorem refload_any (v : Value) (l : List UInt8) (w : World) (hr : Rd w v l) :
    Calls Try.prog 11 #[v] w fun e w' => e = .returned (.int .u64 ((leN (l.take 8) : Nat) : Int)) ∧ w' = w := by
  obtain ⟨a, cap, rfl, h2, h3, h4, h5⟩ := hr
  unfold maxLen at h3
  go_enter Try.func11, Try.ntmps11
  go_wp2
  all_goals
    go_loop [3, 5] (fun x i => ∃ k : Nat, k ≤ l.length ∧ k ≤ 8 ∧ i = .int .i64 ((k : Int) - 1) ∧ x = .int .u64 ((leN ((l.take 8).drop k) : Nat) : Int)) (fun _ i => (intOf i + 1).toNat)
    case atStart => 
      first
      | exact ⟨8, by omega, by omega, rfl, val_int (by rw [List.drop_eq_nil_of_le (by simp; omega)]; rfl)⟩
      | exact ⟨l.length, by omega, by omega, rfl, val_int (by rw [List.drop_eq_nil_of_le (by simp; omega)]; rfl)⟩
    case round =>
      obtain ⟨k, hk, hk8, rfl, rfl⟩ := hrel
      by_cases hlt : 0 < k
      · obtain ⟨j, rfl⟩ : ∃ j, k = j + 1 := ⟨k - 1, by omega⟩
        rcases h5 with rfl | ⟨b, off, rfl, hc⟩
        · simp at hk
        have hck := hc j (by omega)
        have HS : Hid _ := refload_step l j (by omega) (by omega)
        clear hc h4
        go_wp2
        go_round
        case rel => exact ⟨j, by omega, by omega, by go_num, val_int (by simpa using HS.out)⟩
        case measure => simp [intOf]
      · go_wp2
        go_ret
        refine ⟨ret_int ?_, rfl⟩
        have : k = 0 := by omega
        subst this
        rfl

theorem info5 : (Try.prog.info? 5).map (fun i => (i.zero, i.size, i.bytes)) = some (some (.int .u8 0), 1, 1) := by kernel_rfl

set_option maxHeartbeats 400000 in
theorem store_k (x : Nat) (n : Int) (k : Nat) (hk : k ≤ 8) (hn : (n < 0 ∧ k = 0) ∨ (0 ≤ n ∧ n ≤ 8 ∧ n = k) ∨ (8 < n ∧ k = 8)) (w : World) :
    Calls Try.prog 12 #[.int .u64 x, .int .i64 n] w fun e w' => ∃ v, e = .returned v ∧ New 5 w v ((List.range k).map (stB x)) w' := by
  obtain ⟨i, hi, hz0, hz1, hz2⟩ := info_parts info5
  have HK : Hid ((n < 0 ∧ k = 0) ∨ (0 ≤ n ∧ n ≤ 8 ∧ n = k) ∨ (8 < n ∧ k = 8)) := hn
  have hn' : n < 0 ∨ (0 ≤ n ∧ n ≤ 8) ∨ 8 < n := by omega
  clear hn
  rcases hn' with h1 | ⟨h1, h2⟩ | h1
  all_goals
    go_enter Try.func12, Try.ntmps12
    go_wp2_with (at_make; refine wpList_make_full _ rfl _ _ 22 rfl w.heap.size 5 i _ 1 Try.underlying22 hi hz0 hz1 _ _ _ _ k rfl rfl (by have := HK.out; omega) (by have := HK.out; omega) (by rw [hz2]; omega) (by unfold maxLen; omega) (Nat.le_refl _) ?_)
    intro w1 hown hgr
    have hF := Fill.start (stB x) hown hgr
    clear hown hgr
    go_wp2
    go_loopw [13] (fun i wr => ∃ j : Nat, j ≤ k ∧ i = .int .i64 j ∧ Fill 5 w w.heap.size k (stB x) j wr) (fun i _ => k - (intOf i).toNat)
    case atStart => exact ⟨0, Nat.zero_le _, rfl, hF⟩
    case round =>
      obtain ⟨j, hj, rfl, hFj⟩ := hrel
      by_cases hlt : j < k
      · obtain ⟨hcj, hfj⟩ := hFj.cell hlt
        go_wp2
        go_roundw
        case rel => exact ⟨j + 1, by omega, by go_num, hFj.step (stB_shr x j)⟩
        case measure => simp [intOf]; omega
      · have : j = k := by omega
        subst this
        go_wp2
        go_ret
        exact ⟨_, rfl, hFj.done⟩

set_option maxHeartbeats 400000 in
theorem refstore_k (x : Nat) (hx : x < 18446744073709551616) (n : Int) (k : Nat) (hk : k ≤ 8) (hn : (n < 0 ∧ k = 0) ∨ (0 ≤ n ∧ n ≤ 8 ∧ n = k) ∨ (8 < n ∧ k = 8)) (w : World) :
    Calls Try.prog 13 #[.int .u64 x, .int .i64 n] w fun e w' => ∃ v, e = .returned v ∧ New 5 w v ((List.range k).map (stB x)) w' := by
  obtain ⟨i, hi, hz0, hz1, hz2⟩ := info_parts info5
  have HK : Hid ((n < 0 ∧ k = 0) ∨ (0 ≤ n ∧ n ≤ 8 ∧ n = k) ∨ (8 < n ∧ k = 8)) := hn
  clear hn
  go_enter Try.func13, Try.ntmps13
  go_wp2
  go_loopw [0, 5, 6] (fun xv v i wr => ∃ j y : Nat, j ≤ k ∧ Hid (y = x / 256 ^ j) ∧ xv = .int .u64 (y : Int) ∧ i = .int .i64 j ∧ New 5 w v ((List.range j).map (stB x)) wr) (fun _ _ i _ => k - (intOf i).toNat)
  case atStart => exact ⟨0, x, Nat.zero_le _, by simp [Hid], rfl, rfl, New.start w⟩
  case round =>
    obtain ⟨j, y, hj, Hy, rfl, rfl, hN⟩ := hrel
    have hy : (0 : Int) ≤ (y : Int) := by omega
    have hy2 : (y : Int) < 18446744073709551616 := by have := Hy.out; have := Nat.div_le_self x (256 ^ j); omega
    by_cases hlt : j < k
    · have h1 : (j : Int) < n := by have := HK.out; omega
      have h2 : (j : Int) < 8 := by omega
      go_wp2_with (at_builtin; go_must (refine wpList_append_new (w := w) rfl _ _ 22 rfl 5 Try.underlying22 info5 _ _ rfl (hN.alloc _) _ _ rfl (Rd.lit1 (stB x j) (by rw [← stB_mod, ← Hy.out])) (by simp; omega) ?_))
      intro v' w2 hN2 _
      go_wp2
      go_roundw
      case rel => exact ⟨j + 1, y / 256, by omega, by rw [Hy.out]; exact div_succ x j, by go_num, by go_num, by rw [List.range_succ, List.map_append]; exact hN2⟩
      case measure => simp [intOf]; omega
    · have hjk : j = k := by omega
      subst hjk
      have hno : ¬ (j : Int) < n ∨ ((j : Int) < n ∧ ¬ (j : Int) < 8) := by have := HK.out; omega
      rcases hno with h1 | ⟨h1, h2⟩
      all_goals
        go_wp2
        go_ret
        exact ⟨_, rfl, hN⟩
end Go.Proofs.Yticjhpclpealmaa
