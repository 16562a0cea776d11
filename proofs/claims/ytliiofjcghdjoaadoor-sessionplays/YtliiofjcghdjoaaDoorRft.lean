/- What functions of the program, or of the reference, answer: contracts; several texts in one. -/
import Derived.Test.YtliiofjcghdjoaaDoorSmt
import Derived.Test.YtliiofjcghdjoaaDoorRows
import Derived.Test.YtliiofjcghdjoaaDoorBase
import Derived.OwnWalk
import Derived.Deep.QuietTactic
import Derived.BigQuiet
import Derived.WalkSpells
import Derived.RegionTactic
import Derived.BigRegion
import Derived.Test.YtliiofjcghdjoaaDoorRfu

/- How long it takes till a message is said again, and timers: contracts of the reference of layer 22, first part. -/
namespace Go.Proofs.YtliiofjcghdjoaaDoor
open Go.ChangeShapes Go.WideShapes Go.ChangeAt Go.RowKit
set_option linter.unusedSimpArgs false
set_option linter.unusedVariables false

theorem since22_any (t n : Nat) (ht : t < 18446744073709551616) (hn : n < 18446744073709551616) (w : World) :
    Calls Tryd.prog 26 #[.int .u64 (t : Int), .int .u64 (n : Int)] w fun e w' => e = .returned (.int .u64 ((snN t n : Nat) : Int)) ∧ w' = w := by
  by_cases h : n < t
  · have d : decide ((n : Int) < (t : Int)) = true := decide_eq_true (by omega)
    have dN : decide (n < t) = true := decide_eq_true h
    have HE : Hid ((snN t n : Nat) = 0) := (by unfold snN; rw [if_pos h] : snN t n = 0)
    go_enter Tryd.func26, Tryd.ntmps26
    go_wp2
    go_ret
    exact ⟨retI (by rw [HE.out]; rfl), rfl⟩
  · have d : decide ((n : Int) < (t : Int)) = false := decide_eq_false (by omega)
    have dN : decide (n < t) = false := decide_eq_false h
    obtain ⟨D, hD⟩ : ∃ D : Nat, D = n - t := ⟨_, rfl⟩
    have HE : Hid ((snN t n : Nat) = D) := (by unfold snN; rw [if_neg h, hD] : snN t n = D)
    have e2 : IntKind.u64.wrap ((n : Int) - (t : Int)) = (D : Int) := by rw [IntKind.wrap_u64]; omega
    clear hD
    go_enter Tryd.func26, Tryd.ntmps26
    go_wp2
    go_ret
    exact ⟨retI (by rw [HE.out]), rfl⟩

set_option maxRecDepth 100000 in
set_option maxHeartbeats 4000000 in
theorem wait22_any (r : Rl) (hr : RlW r) (n : Int) (A : Array Value) (hA : A = (rlC r).toArray) (w : World) :
    Calls Tryd.prog 10 #[.agg A, .int .i64 n] w fun e w' => e = .returned (.int .u64 ((wtN r n : Nat) : Int)) ∧ Below w.heap.size w w' := by
  have HA : Hid (A = (rlC r).toArray) := hA
  have HR : Hid (RlW r) := hr
  have HE : Hid (∀ (i : Nat), n ≤ (i : Int) → ((i : Int) ≤ n ∨ i = 0) → w0N r * 2 ^ i ≤ moN r → wtN r n = w0N r * 2 ^ i) := fun i h1 h2 h3 => wt_end r h1 h2 h3
  have HM : Hid (∀ (i : Nat), (i : Int) < n → moN r < 2 * (w0N r * 2 ^ i) → wtN r n = moN r) := fun i h1 h2 => wt_most r h1 h2
  have HF : Hid (∀ (i : Nat), w0N r * 2 ^ i ≤ moN r → i < 64) := fun i h => wt_few r hr h
  have HNx : Hid (∀ (i : Nat), w0N r * 2 ^ (i + 1) = 2 * (w0N r * 2 ^ i)) := fun i => wt_next r i
  have HGe : Hid (w0N r * 2 ^ 0 ≤ moN r) := (by have := moN_ge r; simpa using this : w0N r * 2 ^ 0 ≤ moN r)
  have HLt : Hid (moN r < 18446744073709551616) := moN_lt hr
  have h0w : w0N r = if r.retry = 0 then 1 else r.retry := rfl
  have h0m : moN r = if r.rmax < w0N r then w0N r else r.rmax := rfl
  obtain ⟨R0, hR0⟩ : ∃ x, x = r.retry := ⟨_, rfl⟩
  obtain ⟨R1, hR1⟩ : ∃ x, x = r.rmax := ⟨_, rfl⟩
  obtain ⟨Z, hZ⟩ : ∃ x, x = wtN r n := ⟨_, rfl⟩
  rw [← hZ] at HE HM ⊢
  have hcell : rlC r = [.int .u64 (R0 : Int), .int .u64 (R1 : Int), .int .i64 r.tries, .int .u64 (r.rekey : Int), .int .u64 (r.expire : Int), .int .u64 (r.rcount : Int), .int .u64 (r.ecount : Int)] := by rw [hR0, hR1]; rfl
  rw [← hR0] at h0w
  rw [← hR1] at h0m
  generalize w0N r = W0 at HE HM HF HNx HGe h0w h0m
  generalize moN r = MO at HE HM HF HGe HLt h0m
  have HCl : Hid (rlC r = [.int .u64 (R0 : Int), .int .u64 (R1 : Int), .int .i64 r.tries, .int .u64 (r.rekey : Int), .int .u64 (r.expire : Int), .int .u64 (r.rcount : Int), .int .u64 (r.ecount : Int)]) := hcell
  clear hA hr hR0 hR1 hZ hcell
  go_enter Tryd.func10, Tryd.ntmps10
  go_wp2_with (refine wpList_box_blk rfl 27 _ rfl (rlC r) (by rw [← HA.out]; rfl) ?_)
  intro w1 r1 b1 s1
  obtain ⟨g, hg⟩ : ∃ n : Nat, n = w.heap.size := ⟨_, rfl⟩
  rw [← hg] at r1 ⊢
  rw [HCl.out] at r1
  have c0 : w1.cell? ⟨g, 0, none⟩ = some (.int .u64 (R0 : Int)) := r1.cell 0
  have c1 : w1.cell? ⟨g, 1, none⟩ = some (.int .u64 (R1 : Int)) := r1.cell 1
  have HB : Hid (Below w.heap.size w w1) := b1
  clear r1 b1 s1 hg HA
  by_cases h0 : R0 = 0
  · rw [if_pos h0] at h0w
    have HW0 : Hid (W0 = 1) := h0w
    have d0 : ((R0 : Int) == 0) = true := by simp [h0]
    rw [h0w] at h0m
    by_cases h1 : R1 < 1
    · rw [if_pos h1] at h0m
      have HMO : Hid (((1 : Nat)) = MO) := h0m.symm
      have d1 : decide ((R1 : Int) < 1) = true := decide_eq_true (by omega)
      clear h0 h0w h0m h1
      go_wp2
      go_loop [5, 7] (fun xv iv => ∃ i x : Nat, iv = .int .i64 (i : Int) ∧ xv = .int .u64 (x : Int) ∧ Hid (x = W0 * 2 ^ i ∧ x ≤ MO ∧ ((i : Int) ≤ n ∨ i = 0))) (fun _ iv => 64 - (intOf iv).toNat)
      case atStart => exact ⟨0, 1, rfl, rfl, by have h := HGe.out; simp only [Nat.pow_zero, Nat.mul_one] at h ⊢; exact ⟨HW0.out.symm, by rw [← HW0.out]; exact h, .inr (by trivial)⟩⟩
      case round =>
        obtain ⟨i, x, rfl, rfl, HX⟩ := hrel
        have hi64 : i < 64 := HF.out i (by rw [← HX.out.1]; exact HX.out.2.1)
        have d64 : decide ((i : Int) < 64) = true := decide_eq_true (by omega)
        by_cases hlt : (i : Int) < n
        · have d : decide ((i : Int) < n) = true := decide_eq_true hlt
          have hx64 : x < 18446744073709551616 := by have := HX.out.2.1; have := HLt.out; omega
          by_cases h63 : 9223372036854775808 ≤ x
          · have d2 : decide ((9223372036854775808 : Int) ≤ (x : Int)) = true := decide_eq_true (by omega)
            have HZ : Hid (Z = MO) := HM.out i hlt (by rw [← HX.out.1]; have := HLt.out; omega)
            have HMo : Hid ((1 : Int) = (MO : Int)) := (by rw [← HMO.out]; try rfl : (1 : Int) = (MO : Int))
            clear h63 hx64 hi64
            go_wp2
            go_ret
            exact ⟨retI (by rw [HZ.out]; exact HMo.out), HB.out⟩
          · have d2 : decide ((9223372036854775808 : Int) ≤ (x : Int)) = false := decide_eq_false (by omega)
            obtain ⟨Y, hY⟩ : ∃ Y : Nat, Y = 2 * x := ⟨_, rfl⟩
            have hwr : IntKind.u64.wrap (2 * (x : Int)) = (Y : Int) := by rw [IntKind.wrap_u64]; omega
            have HY : Hid (Y = 2 * x) := hY
            by_cases hgt : MO < Y
            · have d3 : decide ((1 : Int) < (Y : Int)) = true := decide_eq_true (by have := HMO.out; omega)
              have HZ : Hid (Z = MO) := HM.out i hlt (by rw [← HX.out.1]; omega)
              have HMo : Hid ((1 : Int) = (MO : Int)) := (by rw [← HMO.out]; try rfl : (1 : Int) = (MO : Int))
              clear h63 hx64 hi64 hY
              go_wp2
              go_ret
              exact ⟨retI (by rw [HZ.out]; exact HMo.out), HB.out⟩
            · have d3 : decide ((1 : Int) < (Y : Int)) = false := decide_eq_false (by have := HMO.out; omega)
              have HX2 : Hid (Y = W0 * 2 ^ (i + 1) ∧ Y ≤ MO ∧ (((i + 1 : Nat) : Int) ≤ n ∨ i + 1 = 0)) := ⟨by rw [HNx.out, ← HX.out.1]; exact hY, by omega, .inl (by omega)⟩
              clear h63 hx64 hY
              go_wp2
              go_round
              case rel => exact ⟨i + 1, Y, by go_num, rfl, HX2⟩
              case measure => simp [intOf]; omega
        · have d : decide ((i : Int) < n) = false := decide_eq_false hlt
          have HZ : Hid (Z = x) := (by rw [HX.out.1]; exact HE.out i (by omega) HX.out.2.2 (by rw [← HX.out.1]; exact HX.out.2.1) : Z = x)
          clear hi64
          go_wp2
          go_ret
          exact ⟨retI (by rw [HZ.out]), HB.out⟩
    · rw [if_neg h1] at h0m
      have HMO : Hid (R1 = MO) := h0m.symm
      have d1 : decide ((R1 : Int) < 1) = false := decide_eq_false (by omega)
      clear h0 h0w h0m h1
      go_wp2
      go_loop [5, 7] (fun xv iv => ∃ i x : Nat, iv = .int .i64 (i : Int) ∧ xv = .int .u64 (x : Int) ∧ Hid (x = W0 * 2 ^ i ∧ x ≤ MO ∧ ((i : Int) ≤ n ∨ i = 0))) (fun _ iv => 64 - (intOf iv).toNat)
      case atStart => exact ⟨0, 1, rfl, rfl, by have h := HGe.out; simp only [Nat.pow_zero, Nat.mul_one] at h ⊢; exact ⟨HW0.out.symm, by rw [← HW0.out]; exact h, .inr (by trivial)⟩⟩
      case round =>
        obtain ⟨i, x, rfl, rfl, HX⟩ := hrel
        have hi64 : i < 64 := HF.out i (by rw [← HX.out.1]; exact HX.out.2.1)
        have d64 : decide ((i : Int) < 64) = true := decide_eq_true (by omega)
        by_cases hlt : (i : Int) < n
        · have d : decide ((i : Int) < n) = true := decide_eq_true hlt
          have hx64 : x < 18446744073709551616 := by have := HX.out.2.1; have := HLt.out; omega
          by_cases h63 : 9223372036854775808 ≤ x
          · have d2 : decide ((9223372036854775808 : Int) ≤ (x : Int)) = true := decide_eq_true (by omega)
            have HZ : Hid (Z = MO) := HM.out i hlt (by rw [← HX.out.1]; have := HLt.out; omega)
            have HMo : Hid (((R1 : Int) : Int) = (MO : Int)) := (by rw [← HMO.out]; try rfl : ((R1 : Int) : Int) = (MO : Int))
            clear h63 hx64 hi64
            go_wp2
            go_ret
            exact ⟨retI (by rw [HZ.out]; exact HMo.out), HB.out⟩
          · have d2 : decide ((9223372036854775808 : Int) ≤ (x : Int)) = false := decide_eq_false (by omega)
            obtain ⟨Y, hY⟩ : ∃ Y : Nat, Y = 2 * x := ⟨_, rfl⟩
            have hwr : IntKind.u64.wrap (2 * (x : Int)) = (Y : Int) := by rw [IntKind.wrap_u64]; omega
            have HY : Hid (Y = 2 * x) := hY
            by_cases hgt : MO < Y
            · have d3 : decide (((R1 : Int) : Int) < (Y : Int)) = true := decide_eq_true (by have := HMO.out; omega)
              have d3N : decide (R1 < Y) = true := decide_eq_true (by have := HMO.out; omega)
              have HZ : Hid (Z = MO) := HM.out i hlt (by rw [← HX.out.1]; omega)
              have HMo : Hid (((R1 : Int) : Int) = (MO : Int)) := (by rw [← HMO.out]; try rfl : ((R1 : Int) : Int) = (MO : Int))
              clear h63 hx64 hi64 hY
              go_wp2
              go_ret
              exact ⟨retI (by rw [HZ.out]; exact HMo.out), HB.out⟩
            · have d3 : decide (((R1 : Int) : Int) < (Y : Int)) = false := decide_eq_false (by have := HMO.out; omega)
              have d3N : decide (R1 < Y) = false := decide_eq_false (by have := HMO.out; omega)
              have HX2 : Hid (Y = W0 * 2 ^ (i + 1) ∧ Y ≤ MO ∧ (((i + 1 : Nat) : Int) ≤ n ∨ i + 1 = 0)) := ⟨by rw [HNx.out, ← HX.out.1]; exact hY, by omega, .inl (by omega)⟩
              clear h63 hx64 hY
              go_wp2
              go_round
              case rel => exact ⟨i + 1, Y, by go_num, rfl, HX2⟩
              case measure => simp [intOf]; omega
        · have d : decide ((i : Int) < n) = false := decide_eq_false hlt
          have HZ : Hid (Z = x) := (by rw [HX.out.1]; exact HE.out i (by omega) HX.out.2.2 (by rw [← HX.out.1]; exact HX.out.2.1) : Z = x)
          clear hi64
          go_wp2
          go_ret
          exact ⟨retI (by rw [HZ.out]), HB.out⟩
  · rw [if_neg h0] at h0w
    have HW0 : Hid (W0 = R0) := h0w
    have d0 : ((R0 : Int) == 0) = false := by rw [beq_eq_false_iff_ne]; omega
    rw [h0w] at h0m
    by_cases h1 : R1 < R0
    · rw [if_pos h1] at h0m
      have HMO : Hid (R0 = MO) := h0m.symm
      have d1 : decide ((R1 : Int) < (R0 : Int)) = true := decide_eq_true (by omega)
      have d1N : decide (R1 < R0) = true := decide_eq_true h1
      clear h0 h0w h0m h1
      go_wp2
      go_loop [5, 7] (fun xv iv => ∃ i x : Nat, iv = .int .i64 (i : Int) ∧ xv = .int .u64 (x : Int) ∧ Hid (x = W0 * 2 ^ i ∧ x ≤ MO ∧ ((i : Int) ≤ n ∨ i = 0))) (fun _ iv => 64 - (intOf iv).toNat)
      case atStart => exact ⟨0, R0, rfl, rfl, by have h := HGe.out; simp only [Nat.pow_zero, Nat.mul_one] at h ⊢; exact ⟨HW0.out.symm, by rw [← HW0.out]; exact h, .inr (by trivial)⟩⟩
      case round =>
        obtain ⟨i, x, rfl, rfl, HX⟩ := hrel
        have hi64 : i < 64 := HF.out i (by rw [← HX.out.1]; exact HX.out.2.1)
        have d64 : decide ((i : Int) < 64) = true := decide_eq_true (by omega)
        by_cases hlt : (i : Int) < n
        · have d : decide ((i : Int) < n) = true := decide_eq_true hlt
          have hx64 : x < 18446744073709551616 := by have := HX.out.2.1; have := HLt.out; omega
          by_cases h63 : 9223372036854775808 ≤ x
          · have d2 : decide ((9223372036854775808 : Int) ≤ (x : Int)) = true := decide_eq_true (by omega)
            have HZ : Hid (Z = MO) := HM.out i hlt (by rw [← HX.out.1]; have := HLt.out; omega)
            have HMo : Hid (((R0 : Int) : Int) = (MO : Int)) := (by rw [← HMO.out]; try rfl : ((R0 : Int) : Int) = (MO : Int))
            clear h63 hx64 hi64
            go_wp2
            go_ret
            exact ⟨retI (by rw [HZ.out]; exact HMo.out), HB.out⟩
          · have d2 : decide ((9223372036854775808 : Int) ≤ (x : Int)) = false := decide_eq_false (by omega)
            obtain ⟨Y, hY⟩ : ∃ Y : Nat, Y = 2 * x := ⟨_, rfl⟩
            have hwr : IntKind.u64.wrap (2 * (x : Int)) = (Y : Int) := by rw [IntKind.wrap_u64]; omega
            have HY : Hid (Y = 2 * x) := hY
            by_cases hgt : MO < Y
            · have d3 : decide (((R0 : Int) : Int) < (Y : Int)) = true := decide_eq_true (by have := HMO.out; omega)
              have d3N : decide (R0 < Y) = true := decide_eq_true (by have := HMO.out; omega)
              have HZ : Hid (Z = MO) := HM.out i hlt (by rw [← HX.out.1]; omega)
              have HMo : Hid (((R0 : Int) : Int) = (MO : Int)) := (by rw [← HMO.out]; try rfl : ((R0 : Int) : Int) = (MO : Int))
              clear h63 hx64 hi64 hY
              go_wp2
              go_ret
              exact ⟨retI (by rw [HZ.out]; exact HMo.out), HB.out⟩
            · have d3 : decide (((R0 : Int) : Int) < (Y : Int)) = false := decide_eq_false (by have := HMO.out; omega)
              have d3N : decide (R0 < Y) = false := decide_eq_false (by have := HMO.out; omega)
              have HX2 : Hid (Y = W0 * 2 ^ (i + 1) ∧ Y ≤ MO ∧ (((i + 1 : Nat) : Int) ≤ n ∨ i + 1 = 0)) := ⟨by rw [HNx.out, ← HX.out.1]; exact hY, by omega, .inl (by omega)⟩
              clear h63 hx64 hY
              go_wp2
              go_round
              case rel => exact ⟨i + 1, Y, by go_num, rfl, HX2⟩
              case measure => simp [intOf]; omega
        · have d : decide ((i : Int) < n) = false := decide_eq_false hlt
          have HZ : Hid (Z = x) := (by rw [HX.out.1]; exact HE.out i (by omega) HX.out.2.2 (by rw [← HX.out.1]; exact HX.out.2.1) : Z = x)
          clear hi64
          go_wp2
          go_ret
          exact ⟨retI (by rw [HZ.out]), HB.out⟩
    · rw [if_neg h1] at h0m
      have HMO : Hid (R1 = MO) := h0m.symm
      have d1 : decide ((R1 : Int) < (R0 : Int)) = false := decide_eq_false (by omega)
      have d1N : decide (R1 < R0) = false := decide_eq_false h1
      clear h0 h0w h0m h1
      go_wp2
      go_loop [5, 7] (fun xv iv => ∃ i x : Nat, iv = .int .i64 (i : Int) ∧ xv = .int .u64 (x : Int) ∧ Hid (x = W0 * 2 ^ i ∧ x ≤ MO ∧ ((i : Int) ≤ n ∨ i = 0))) (fun _ iv => 64 - (intOf iv).toNat)
      case atStart => exact ⟨0, R0, rfl, rfl, by have h := HGe.out; simp only [Nat.pow_zero, Nat.mul_one] at h ⊢; exact ⟨HW0.out.symm, by rw [← HW0.out]; exact h, .inr (by trivial)⟩⟩
      case round =>
        obtain ⟨i, x, rfl, rfl, HX⟩ := hrel
        have hi64 : i < 64 := HF.out i (by rw [← HX.out.1]; exact HX.out.2.1)
        have d64 : decide ((i : Int) < 64) = true := decide_eq_true (by omega)
        by_cases hlt : (i : Int) < n
        · have d : decide ((i : Int) < n) = true := decide_eq_true hlt
          have hx64 : x < 18446744073709551616 := by have := HX.out.2.1; have := HLt.out; omega
          by_cases h63 : 9223372036854775808 ≤ x
          · have d2 : decide ((9223372036854775808 : Int) ≤ (x : Int)) = true := decide_eq_true (by omega)
            have HZ : Hid (Z = MO) := HM.out i hlt (by rw [← HX.out.1]; have := HLt.out; omega)
            have HMo : Hid (((R1 : Int) : Int) = (MO : Int)) := (by rw [← HMO.out]; try rfl : ((R1 : Int) : Int) = (MO : Int))
            clear h63 hx64 hi64
            go_wp2
            go_ret
            exact ⟨retI (by rw [HZ.out]; exact HMo.out), HB.out⟩
          · have d2 : decide ((9223372036854775808 : Int) ≤ (x : Int)) = false := decide_eq_false (by omega)
            obtain ⟨Y, hY⟩ : ∃ Y : Nat, Y = 2 * x := ⟨_, rfl⟩
            have hwr : IntKind.u64.wrap (2 * (x : Int)) = (Y : Int) := by rw [IntKind.wrap_u64]; omega
            have HY : Hid (Y = 2 * x) := hY
            by_cases hgt : MO < Y
            · have d3 : decide (((R1 : Int) : Int) < (Y : Int)) = true := decide_eq_true (by have := HMO.out; omega)
              have d3N : decide (R1 < Y) = true := decide_eq_true (by have := HMO.out; omega)
              have HZ : Hid (Z = MO) := HM.out i hlt (by rw [← HX.out.1]; omega)
              have HMo : Hid (((R1 : Int) : Int) = (MO : Int)) := (by rw [← HMO.out]; try rfl : ((R1 : Int) : Int) = (MO : Int))
              clear h63 hx64 hi64 hY
              go_wp2
              go_ret
              exact ⟨retI (by rw [HZ.out]; exact HMo.out), HB.out⟩
            · have d3 : decide (((R1 : Int) : Int) < (Y : Int)) = false := decide_eq_false (by have := HMO.out; omega)
              have d3N : decide (R1 < Y) = false := decide_eq_false (by have := HMO.out; omega)
              have HX2 : Hid (Y = W0 * 2 ^ (i + 1) ∧ Y ≤ MO ∧ (((i + 1 : Nat) : Int) ≤ n ∨ i + 1 = 0)) := ⟨by rw [HNx.out, ← HX.out.1]; exact hY, by omega, .inl (by omega)⟩
              clear h63 hx64 hY
              go_wp2
              go_round
              case rel => exact ⟨i + 1, Y, by go_num, rfl, HX2⟩
              case measure => simp [intOf]; omega
        · have d : decide ((i : Int) < n) = false := decide_eq_false hlt
          have HZ : Hid (Z = x) := (by rw [HX.out.1]; exact HE.out i (by omega) HX.out.2.2 (by rw [← HX.out.1]; exact HX.out.2.1) : Z = x)
          clear hi64
          go_wp2
          go_ret
          exact ⟨retI (by rw [HZ.out]), HB.out⟩
end Go.Proofs.YtliiofjcghdjoaaDoor

/- When it is time to say a message again, and the timer behind it: contracts of the reference of layer 22, second part. -/
namespace Go.Proofs.YtliiofjcghdjoaaDoor
open Go.ChangeShapes Go.WideShapes Go.ChangeAt Go.RowKit
set_option linter.unusedSimpArgs false
set_option linter.unusedVariables false

theorem info_r22 : (Tryd.prog.info? 27).map (·.size) = some 7 := by kernel_rfl
theorem info_t22 : (Tryd.prog.info? 34).map (·.size) = some 2 := by kernel_rfl
theorem retB22 {b c : Bool} (h : c = b) : Ending.returned (.bool b) = Ending.returned (.bool c) := by rw [h]

set_option maxRecDepth 100000 in
set_option maxHeartbeats 4000000 in
theorem due22_any (r : Rl) (hr : RlW r) (last : Nat) (tries : Int) (now : Nat) (hl : last < 18446744073709551616) (hn : now < 18446744073709551616) (A B : Array Value) (hA : A = (rlC r).toArray) (hB : B = (tmC last tries).toArray) (w : World) :
    Calls Tryd.prog 12 #[.agg A, .agg B, .int .u64 (now : Int)] w fun e w' => e = .returned (.bool (duB r last tries now)) ∧ Below w.heap.size w w' := by
  have HA : Hid (A = (rlC r).toArray) := hA
  have HB : Hid (B = (tmC last tries).toArray) := hB
  have HR : Hid (RlW r) := hr
  have HL : Hid (last < 18446744073709551616) := hl
  have HN : Hid (now < 18446744073709551616) := hn
  have HD : Hid (duB r last tries now = decide (wtN r tries ≤ snN last now)) := rfl
  obtain ⟨G, hG⟩ : ∃ G, G = duB r last tries now := ⟨_, rfl⟩
  rw [← hG] at HD ⊢
  clear hA hB hr hl hn hG
  go_enter Tryd.func12, Tryd.ntmps12
  go_wp2_with (refine wpList_box_blk rfl 27 _ rfl (rlC r) (by rw [← HA.out]; rfl) ?_)
  intro w1 r1 b1 s1
  go_wp2_with (refine wpList_box_blk rfl 34 _ rfl (tmC last tries) (by rw [← HB.out]; rfl) ?_)
  intro w2 r2 b2 s2
  obtain ⟨g1, hg1⟩ : ∃ n : Nat, n = w.heap.size := ⟨_, rfl⟩
  obtain ⟨g2, hg2⟩ : ∃ n : Nat, n = w1.heap.size := ⟨_, rfl⟩
  rw [← hg1] at r1 ⊢
  rw [← hg2] at r2 ⊢
  have R2 : Hid (BlkAt g1 27 (rlC r) w2) := r1.kept b2
  have T2 : Hid (BlkAt g2 34 (tmC last tries) w2) := r2
  have HB2 : Hid (Below w.heap.size w w2) := stepB b1 b2
  clear r1 r2 b1 b2 s1 s2 hg1 hg2 HA HB
  obtain ⟨x, hx⟩ : ∃ x, x = snN last now := ⟨_, rfl⟩
  obtain ⟨y, hy⟩ : ∃ y, y = wtN r tries := ⟨_, rfl⟩
  rw [← hx, ← hy] at HD
  have HX : Hid (x = snN last now) := hx
  have HY : Hid (y = wtN r tries) := hy
  have dI : decide ((y : Int) ≤ (x : Int)) = G := by rw [HD.out]; exact decide_eq_decide.2 (by omega)
  have dN : decide (y ≤ x) = G := by rw [HD.out]
  clear hx hy
  go_wp2_with fail
  refine wpG_begin (by kernel_rfl) ?_
  refine gU_ 0 rfl ⟨_, by intro W hW; go_simp <;> with_reducible rfl, ?_⟩
  try simp only [Act.put, pA_, pB_, pC_]
  refine gU_ 1 rfl ⟨_, by intro W hW; have cW : W.cell? ⟨g2, 0, none⟩ = some (.int .u64 (last : Int)) := (T2.out.drew.kept hW).cell 0; go_simp <;> with_reducible rfl, ?_⟩
  try simp only [Act.put, pA_, pB_, pC_]
  refine gU_ 2 rfl ⟨_, by intro W hW; go_simp <;> with_reducible rfl, ?_⟩
  try simp only [Act.put, pA_, pB_, pC_]
  refine gU_ 4 rfl ⟨_, by intro W hW; refine Eq.trans (exec_load_part 27 _ (by rfl) (by rfl) [] (rlC r) [] R2.out.drew hW (by simp) rfl Tryd.underlying27 rfl info_r22) ?_; with_reducible rfl, ?_⟩
  try simp only [Act.put, pA_, pB_, pC_]
  refine gU_ 5 rfl ⟨_, by intro W hW; go_simp <;> with_reducible rfl, ?_⟩
  try simp only [Act.put, pA_, pB_, pC_]
  refine gU_ 6 rfl ⟨_, by intro W hW; have cW : W.cell? ⟨g2, 1, none⟩ = some (.int .i64 tries) := (T2.out.drew.kept hW).cell 1; go_simp <;> with_reducible rfl, ?_⟩
  try simp only [Act.put, pA_, pB_, pC_]
  refine gD_ 3 fun K hK => ?_
  go_simp
  refine (since22_any last now HL.out HN.out _).mono ?_
  rintro e wa ⟨rfl, rfl⟩
  rw [← HX.out]
  refine hK.out _ _ (Below.refl _ _) ?_
  clear hK K
  try simp only [Act.put, pA_, pB_, pC_]
  refine gD_ 7 fun K hK => ?_
  go_simp
  refine (wait22_any r HR.out tries _ rfl _).mono ?_
  rintro e wb ⟨rfl, bb⟩
  rw [← HY.out]
  refine hK.out _ _ bb ?_
  clear hK K
  try simp only [Act.put, pA_, pB_, pC_]
  refine gU_ 8 rfl ⟨_, by intro W hW; go_simp <;> with_reducible rfl, ?_⟩
  try simp only [Act.put, pA_, pB_, pC_]
  refine gU_ 9 rfl ⟨_, by intro W hW; go_simp <;> with_reducible rfl, ?_⟩
  try simp only [Act.put, pA_, pB_, pC_]
  refine wpG_done (by kernel_rfl) ?_
  have HB3 : Hid (Below w.heap.size w wb) := stepB HB2.out.drew bb
  clear bb R2 T2 HB2
  go_wp2
  go_ret
  exact ⟨rfl, HB3.out⟩

theorem bodyPost_tm22 {P : Program} {fn : Func} {p q : Tmp} {ty bt : TypeId} {g : Nat} {cs : List Value} {d : TypeDesc} {v : Value} {R : Ending → World → Prop} {a : Act} {w : World} (h : fn.results = #[.cell p ty, .tmp q]) (hd : a.defers = [])
    (hp : a.tmps.getD p undef = .pointer (some ⟨g, 0, none⟩)) (hq : a.tmps.getD q undef = v) (hb : BlkAt g bt cs w) (hu : P.underlying ty = some d) (hrow : d.isRow = true) (hi : (P.info? ty).map (·.size) = some cs.length)
    (hR : R (.returned (.tuple #[.agg cs.toArray, v])) w) : bodyPost P fn R .ret a w := by
  refine bodyPost_ret ?_ hd hR
  have hp' : a.tmps[p]?.getD undef = .pointer (some ⟨g, 0, none⟩) := by simpa using hp
  have hq' : a.tmps[q]?.getD undef = v := by simpa using hq
  have hb' : BlkAt g bt (([] : List Value) ++ cs ++ []) w := by simpa using hb
  have hl := run_loadVar_mid (P := P) w g 0 ty cs d hb'.range hu hrow hi
  simp [results, h, hp', hq', asAddr, hl]
theorem alloc_t22 (w : World) : (Instr.alloc 34 true (.tuple #[])).run Tryd.prog w = .ok (.pointer (some ⟨w.heap.size, 0, none⟩)) (w.alloc (.cells (tmC 0 0).toArray 34)) := by kernel_rfl
theorem build_t22 (x : Nat) (y : Int) (w : World) : (Instr.build 34 #[(0, .int .u64 (x : Int)), (1, .int .i64 y)]).run Tryd.prog w = .ok (.agg (tmC x y).toArray) w := by kernel_rfl
theorem one_t22 (x : Nat) (y : Int) : (tmC x y).toArray.all (·.oneCell') = true := by kernel_rfl

set_option maxRecDepth 100000 in
set_option maxHeartbeats 4000000 in
theorem again22_any (r : Rl) (hr : RlW r) (last : Nat) (tries : Int) (now : Nat) (ht : -9223372036854775808 ≤ tries ∧ tries ≤ 9223372036854775807) (A B : Array Value) (hA : A = (rlC r).toArray) (hB : B = (tmC last tries).toArray) (w : World) :
    Calls Tryd.prog 14 #[.agg A, .agg B, .int .u64 (now : Int)] w fun e w' => e = .returned (.tuple #[.agg (tmC (agT r last tries now).1.1 (agT r last tries now).1.2).toArray, .bool (agT r last tries now).2]) ∧ Below w.heap.size w w' := by
  have HA : Hid (A = (rlC r).toArray) := hA
  have HB : Hid (B = (tmC last tries).toArray) := hB
  have HR : Hid (RlW r) := hr
  have HTr : Hid (-9223372036854775808 ≤ tries ∧ tries ≤ 9223372036854775807) := ht
  have HG : Hid (agT r last tries now = if r.tries ≤ tries then ((last, tries), false) else ((now, tries + 1), true)) := rfl
  obtain ⟨G, hG⟩ : ∃ G, G = agT r last tries now := ⟨_, rfl⟩
  rw [← hG] at HG ⊢
  have htr := hr.tries
  obtain ⟨R2, hR2⟩ : ∃ x, x = r.tries := ⟨_, rfl⟩
  rw [← hR2] at HG htr
  have HR2 : Hid (R2 = r.tries) := hR2
  have HTt : Hid (-9223372036854775808 ≤ R2 ∧ R2 ≤ 9223372036854775807) := htr
  clear hA hB hr hG ht hR2 htr
  go_enter Tryd.func14, Tryd.ntmps14
  go_wp2_with (refine wpList_box_blk rfl 27 _ rfl (rlC r) (by rw [← HA.out]; rfl) ?_)
  intro w1 r1 b1 s1
  go_wp2_with (refine wpList_box_blk rfl 34 _ rfl (tmC last tries) (by rw [← HB.out]; rfl) ?_)
  intro w2 r2 b2 s2
  go_wp2_with (refine wpList_alloc_blk rfl 34 rfl (tmC 0 0) (alloc_t22 _) ?_)
  intro w3 r3 b3 s3
  obtain ⟨g1, hg1⟩ : ∃ n : Nat, n = w.heap.size := ⟨_, rfl⟩
  obtain ⟨g2, hg2⟩ : ∃ n : Nat, n = w1.heap.size := ⟨_, rfl⟩
  obtain ⟨g3, hg3⟩ : ∃ n : Nat, n = w2.heap.size := ⟨_, rfl⟩
  rw [← hg1] at r1 ⊢
  rw [← hg2] at r2 ⊢
  rw [← hg3] at r3 ⊢
  have q1 := (r1.kept b2).kept b3
  have T3 : Hid (BlkAt g2 34 (tmC last tries) w3) := r2.kept b3
  have S3 : Hid (BlkAt g3 34 (tmC 0 0) w3) := r3
  have HB3 : Hid (Below w.heap.size w w3) := stepB (stepB b1 b2) b3
  have HG3 : Hid (w.heap.size ≤ g3) := by show _ ≤ _; rw [hg3]; exact (stepB b1 b2).size
  have c2 : w3.cell? ⟨g1, 2, none⟩ = some (.int .i64 R2) := by rw [HR2.out]; exact q1.cell 2
  have c1 : w3.cell? ⟨g2, 1, none⟩ = some (.int .i64 tries) := T3.out.cell 1
  clear q1 r1 r2 r3 b1 b2 b3 s1 s2 s3 hg1 hg2 hg3 HA HB
  by_cases h : R2 ≤ tries
  · have d : decide (R2 ≤ tries) = true := decide_eq_true h
    have hG : G = ((last, tries), false) := by rw [HG.out, if_pos h]
    subst hG
    clear h HG
    go_wp2_with (first | refine wpList_load_part rfl 34 _ rfl rfl [] (tmC last tries) [] T3.out (by simp) rfl Tryd.underlying34 rfl info_t22 ?_ | (refine wpList_store_part rfl 34 _ _ rfl rfl (tmC last tries) rfl [] (tmC 0 0) [] (tmC last tries) S3.out (by simp) (by simp) rfl rfl info_t22 (one_t22 _ _) ?_; intro wz wzr wzw))
    have wzr2 : BlkAt g3 34 (tmC last tries) wz := by simpa using wzr
    refine bodyPost_tm22 rfl rfl rfl rfl wzr2 Tryd.underlying34 rfl info_t22 ?_
    exact ⟨rfl, wzw.below _ _ HG3.out HB3.out⟩
  · have d : decide (R2 ≤ tries) = false := decide_eq_false h
    have hG : G = ((now, tries + 1), true) := by rw [HG.out, if_neg h]
    subst hG
    have hwr : IntKind.i64.wrap (tries + 1) = tries + 1 := by have := HTr.out; have := HTt.out; rw [IntKind.wrap_i64]; omega
    clear h HG
    go_wp2_with (first | refine wpList_buildB rfl 34 _ rfl #[(0, .int .u64 (now : Int)), (1, .int .i64 (tries + 1))] (by go_simp; done) _ (build_t22 _ _ _) ?_ | (refine wpList_store_part rfl 34 _ _ rfl rfl (tmC now (tries + 1)) rfl [] (tmC 0 0) [] (tmC now (tries + 1)) S3.out (by simp) (by simp) rfl rfl info_t22 (one_t22 _ _) ?_; intro wz wzr wzw))
    have wzr2 : BlkAt g3 34 (tmC now (tries + 1)) wz := by simpa using wzr
    refine bodyPost_tm22 rfl rfl rfl rfl wzr2 Tryd.underlying34 rfl info_t22 ?_
    exact ⟨rfl, wzw.below _ _ HG3.out HB3.out⟩
end Go.Proofs.YtliiofjcghdjoaaDoor

/- Whether a session is to be made anew, or over: contracts of the reference of layer 22, third part. -/
namespace Go.Proofs.YtliiofjcghdjoaaDoor
open Go.ChangeShapes Go.WideShapes Go.ChangeAt Go.RowKit
set_option linter.unusedSimpArgs false
set_option linter.unusedVariables false

theorem retC22 {b c : Bool} (h : c = b) : Ending.returned (.bool b) = Ending.returned (.bool c) := by rw [h]

set_option maxRecDepth 100000 in
set_option maxHeartbeats 4000000 in
theorem rekey22_any (r : Rl) (s : Ses) (hs : SesW s) (v1 v2 v3 : Value) (now : Nat) (hn : now < 18446744073709551616) (A B : Array Value) (hA : A = (rlC r).toArray) (hB : B = (ssC s v1 v2 v3).toArray) (w : World) :
    Calls Tryd.prog 23 #[.agg A, .agg B, .int .u64 (now : Int)] w fun e w' => e = .returned (.bool (rkB r s now)) ∧ Below w.heap.size w w' := by
  have HA : Hid (A = (rlC r).toArray) := hA
  have HB : Hid (B = (ssC s v1 v2 v3).toArray) := hB
  have HBo : Hid (s.born < 18446744073709551616) := hs.born
  have HN : Hid (now < 18446744073709551616) := hn
  have HD : Hid (rkB r s now = (decide (r.rekey ≤ snN s.born now) || decide (r.rcount ≤ s.sent))) := rfl
  obtain ⟨G, hG⟩ : ∃ G, G = rkB r s now := ⟨_, rfl⟩
  rw [← hG] at HD ⊢
  clear hA hB hs hn hG
  go_enter Tryd.func23, Tryd.ntmps23
  go_wp2_with (refine wpList_box_blk rfl 27 _ rfl (rlC r) (by rw [← HA.out]; rfl) ?_)
  intro w1 r1 b1 s1
  go_wp2_with (refine wpList_box_blk rfl 50 _ rfl (ssC s v1 v2 v3) (by rw [← HB.out]; rfl) ?_)
  intro w2 r2 b2 s2
  obtain ⟨g1, hg1⟩ : ∃ n : Nat, n = w.heap.size := ⟨_, rfl⟩
  obtain ⟨g2, hg2⟩ : ∃ n : Nat, n = w1.heap.size := ⟨_, rfl⟩
  rw [← hg1] at r1 ⊢
  rw [← hg2] at r2 ⊢
  have R2 : Hid (BlkAt g1 27 (rlC r) w2) := r1.kept b2
  have T2 : Hid (BlkAt g2 50 (ssC s v1 v2 v3) w2) := r2
  have HB2 : Hid (Below w.heap.size w w2) := stepB b1 b2
  clear r1 r2 b1 b2 s1 s2 hg1 hg2 HA HB
  obtain ⟨x, hx⟩ : ∃ x, x = snN s.born now := ⟨_, rfl⟩
  obtain ⟨y, hy⟩ : ∃ y, y = r.rekey := ⟨_, rfl⟩
  obtain ⟨sn, hsn⟩ : ∃ y, y = s.sent := ⟨_, rfl⟩
  obtain ⟨ct, hct⟩ : ∃ y, y = r.rcount := ⟨_, rfl⟩
  obtain ⟨bo, hbo⟩ : ∃ y, y = s.born := ⟨_, rfl⟩
  rw [← hx, ← hy, ← hsn, ← hct] at HD
  have HX : Hid (x = snN bo now) := (by rw [hbo]; exact hx : x = snN bo now)
  rw [← hbo] at HBo
  have HC1 : Hid (∀ W, Below w2.drew.heap.size w2.drew W → W.cell? ⟨g2, 4, none⟩ = some (.int .u64 (bo : Int)) ∧ W.cell? ⟨g1, 3, none⟩ = some (.int .u64 (y : Int)) ∧ W.cell? ⟨g2, 5, none⟩ = some (.int .u64 (sn : Int)) ∧ W.cell? ⟨g1, 5, none⟩ = some (.int .u64 (ct : Int))) := fun W hW => by
    rw [hbo, hy, hsn, hct]
    exact ⟨(T2.out.drew.kept hW).cell 4, (R2.out.drew.kept hW).cell 3, (T2.out.drew.kept hW).cell 5, (R2.out.drew.kept hW).cell 5⟩
  clear hx hy hsn hct hbo
  by_cases h : y ≤ x
  · have dI : decide ((y : Int) ≤ (x : Int)) = true := decide_eq_true (by omega)
    have dN : decide (y ≤ x) = true := decide_eq_true h
    have hG : G = true := by rw [HD.out, dN]; rfl
    subst hG
    clear HD
    go_wp2_with fail
    refine wpG_begin (by kernel_rfl) ?_
    refine gU_ 0 rfl ⟨_, by intro W hW; go_simp <;> with_reducible rfl, ?_⟩
    try simp only [Act.put, pA_, pB_, pC_]
    refine gU_ 1 rfl ⟨_, by intro W hW; have cW := (HC1.out W hW).1; go_simp <;> with_reducible rfl, ?_⟩
    try simp only [Act.put, pA_, pB_, pC_]
    refine gU_ 2 rfl ⟨_, by intro W hW; go_simp <;> with_reducible rfl, ?_⟩
    try simp only [Act.put, pA_, pB_, pC_]
    refine gU_ 4 rfl ⟨_, by intro W hW; go_simp <;> with_reducible rfl, ?_⟩
    try simp only [Act.put, pA_, pB_, pC_]
    refine gU_ 5 rfl ⟨_, by intro W hW; have cW := (HC1.out W hW).2.1; go_simp <;> with_reducible rfl, ?_⟩
    try simp only [Act.put, pA_, pB_, pC_]
    refine gD_ 3 fun K hK => ?_
    go_simp
    refine (since22_any bo now HBo.out HN.out _).mono ?_
    rintro e wa ⟨rfl, rfl⟩
    rw [← HX.out]
    refine hK.out _ _ (Below.refl _ _) ?_
    clear hK K
    try simp only [Act.put, pA_, pB_, pC_]
    refine gU_ 6 rfl ⟨_, by intro W hW; go_simp <;> with_reducible rfl, ?_⟩
    try simp only [Act.put, pA_, pB_, pC_]
    refine gU_ 7 rfl ⟨_, by intro W hW; go_simp <;> with_reducible rfl, ?_⟩
    try simp only [Act.put, pA_, pB_, pC_]
    refine wpG_skip (i := 8) (nA rfl) (by kernel_rfl) (by kernel_rfl) (by kernel_rfl) (by rfl) ?_
    try simp only [Act.put, pA_, pB_, pC_]
    refine wpG_skip (i := 9) (nA rfl) (by kernel_rfl) (by kernel_rfl) (by kernel_rfl) (by rfl) ?_
    try simp only [Act.put, pA_, pB_, pC_]
    refine wpG_skip (i := 10) (nA rfl) (by kernel_rfl) (by kernel_rfl) (by kernel_rfl) (by rfl) ?_
    try simp only [Act.put, pA_, pB_, pC_]
    refine wpG_skip (i := 11) (nA rfl) (by kernel_rfl) (by kernel_rfl) (by kernel_rfl) (by rfl) ?_
    try simp only [Act.put, pA_, pB_, pC_]
    refine wpG_skip (i := 12) (nA rfl) (by kernel_rfl) (by kernel_rfl) (by kernel_rfl) (by rfl) ?_
    try simp only [Act.put, pA_, pB_, pC_]
    refine gU_ 13 rfl ⟨_, by intro W hW; go_simp <;> with_reducible rfl, ?_⟩
    try simp only [Act.put, pA_, pB_, pC_]
    refine gU_ 14 rfl ⟨_, by intro W hW; go_simp <;> with_reducible rfl, ?_⟩
    try simp only [Act.put, pA_, pB_, pC_]
    refine wpG_done (by kernel_rfl) ?_
    go_wp2
    go_ret
    exact ⟨rfl, HB2.out.drew⟩
  · have dI : decide ((y : Int) ≤ (x : Int)) = false := decide_eq_false (by omega)
    have dN : decide (y ≤ x) = false := decide_eq_false h
    have eI : decide ((ct : Int) ≤ (sn : Int)) = G := by rw [HD.out, dN]; exact decide_eq_decide.2 (by omega)
    have eN : decide (ct ≤ sn) = G := by rw [HD.out, dN]; rfl
    clear HD
    go_wp2_with fail
    refine wpG_begin (by kernel_rfl) ?_
    refine gU_ 0 rfl ⟨_, by intro W hW; go_simp <;> with_reducible rfl, ?_⟩
    try simp only [Act.put, pA_, pB_, pC_]
    refine gU_ 1 rfl ⟨_, by intro W hW; have cW := (HC1.out W hW).1; go_simp <;> with_reducible rfl, ?_⟩
    try simp only [Act.put, pA_, pB_, pC_]
    refine gU_ 2 rfl ⟨_, by intro W hW; go_simp <;> with_reducible rfl, ?_⟩
    try simp only [Act.put, pA_, pB_, pC_]
    refine gU_ 4 rfl ⟨_, by intro W hW; go_simp <;> with_reducible rfl, ?_⟩
    try simp only [Act.put, pA_, pB_, pC_]
    refine gU_ 5 rfl ⟨_, by intro W hW; have cW := (HC1.out W hW).2.1; go_simp <;> with_reducible rfl, ?_⟩
    try simp only [Act.put, pA_, pB_, pC_]
    refine gD_ 3 fun K hK => ?_
    go_simp
    refine (since22_any bo now HBo.out HN.out _).mono ?_
    rintro e wa ⟨rfl, rfl⟩
    rw [← HX.out]
    refine hK.out _ _ (Below.refl _ _) ?_
    clear hK K
    try simp only [Act.put, pA_, pB_, pC_]
    refine gU_ 6 rfl ⟨_, by intro W hW; go_simp <;> with_reducible rfl, ?_⟩
    try simp only [Act.put, pA_, pB_, pC_]
    refine gU_ 7 rfl ⟨_, by intro W hW; go_simp <;> with_reducible rfl, ?_⟩
    try simp only [Act.put, pA_, pB_, pC_]
    refine gU_ 8 rfl ⟨_, by intro W hW; go_simp <;> with_reducible rfl, ?_⟩
    try simp only [Act.put, pA_, pB_, pC_]
    refine gU_ 9 rfl ⟨_, by intro W hW; have cW := (HC1.out W hW).2.2.1; go_simp <;> with_reducible rfl, ?_⟩
    try simp only [Act.put, pA_, pB_, pC_]
    refine gU_ 10 rfl ⟨_, by intro W hW; go_simp <;> with_reducible rfl, ?_⟩
    try simp only [Act.put, pA_, pB_, pC_]
    refine gU_ 11 rfl ⟨_, by intro W hW; have cW := (HC1.out W hW).2.2.2; go_simp <;> with_reducible rfl, ?_⟩
    try simp only [Act.put, pA_, pB_, pC_]
    refine gU_ 12 rfl ⟨_, by intro W hW; go_simp <;> with_reducible rfl, ?_⟩
    try simp only [Act.put, pA_, pB_, pC_]
    refine gU_ 13 rfl ⟨_, by intro W hW; go_simp <;> with_reducible rfl, ?_⟩
    try simp only [Act.put, pA_, pB_, pC_]
    refine gU_ 14 rfl ⟨_, by intro W hW; go_simp <;> with_reducible rfl, ?_⟩
    try simp only [Act.put, pA_, pB_, pC_]
    refine wpG_done (by kernel_rfl) ?_
    go_wp2
    go_ret
    exact ⟨rfl, HB2.out.drew⟩

set_option maxRecDepth 100000 in
set_option maxHeartbeats 4000000 in
theorem expired22_any (r : Rl) (s : Ses) (hs : SesW s) (v1 v2 v3 : Value) (now : Nat) (hn : now < 18446744073709551616) (A B : Array Value) (hA : A = (rlC r).toArray) (hB : B = (ssC s v1 v2 v3).toArray) (w : World) :
    Calls Tryd.prog 25 #[.agg A, .agg B, .int .u64 (now : Int)] w fun e w' => e = .returned (.bool (exB r s now)) ∧ Below w.heap.size w w' := by
  have HA : Hid (A = (rlC r).toArray) := hA
  have HB : Hid (B = (ssC s v1 v2 v3).toArray) := hB
  have HBo : Hid (s.born < 18446744073709551616) := hs.born
  have HN : Hid (now < 18446744073709551616) := hn
  have HD : Hid (exB r s now = (decide (r.expire ≤ snN s.born now) || decide (r.ecount ≤ s.sent))) := rfl
  obtain ⟨G, hG⟩ : ∃ G, G = exB r s now := ⟨_, rfl⟩
  rw [← hG] at HD ⊢
  clear hA hB hs hn hG
  go_enter Tryd.func25, Tryd.ntmps25
  go_wp2_with (refine wpList_box_blk rfl 27 _ rfl (rlC r) (by rw [← HA.out]; rfl) ?_)
  intro w1 r1 b1 s1
  go_wp2_with (refine wpList_box_blk rfl 50 _ rfl (ssC s v1 v2 v3) (by rw [← HB.out]; rfl) ?_)
  intro w2 r2 b2 s2
  obtain ⟨g1, hg1⟩ : ∃ n : Nat, n = w.heap.size := ⟨_, rfl⟩
  obtain ⟨g2, hg2⟩ : ∃ n : Nat, n = w1.heap.size := ⟨_, rfl⟩
  rw [← hg1] at r1 ⊢
  rw [← hg2] at r2 ⊢
  have R2 : Hid (BlkAt g1 27 (rlC r) w2) := r1.kept b2
  have T2 : Hid (BlkAt g2 50 (ssC s v1 v2 v3) w2) := r2
  have HB2 : Hid (Below w.heap.size w w2) := stepB b1 b2
  clear r1 r2 b1 b2 s1 s2 hg1 hg2 HA HB
  obtain ⟨x, hx⟩ : ∃ x, x = snN s.born now := ⟨_, rfl⟩
  obtain ⟨y, hy⟩ : ∃ y, y = r.expire := ⟨_, rfl⟩
  obtain ⟨sn, hsn⟩ : ∃ y, y = s.sent := ⟨_, rfl⟩
  obtain ⟨ct, hct⟩ : ∃ y, y = r.ecount := ⟨_, rfl⟩
  obtain ⟨bo, hbo⟩ : ∃ y, y = s.born := ⟨_, rfl⟩
  rw [← hx, ← hy, ← hsn, ← hct] at HD
  have HX : Hid (x = snN bo now) := (by rw [hbo]; exact hx : x = snN bo now)
  rw [← hbo] at HBo
  have HC1 : Hid (∀ W, Below w2.drew.heap.size w2.drew W → W.cell? ⟨g2, 4, none⟩ = some (.int .u64 (bo : Int)) ∧ W.cell? ⟨g1, 4, none⟩ = some (.int .u64 (y : Int)) ∧ W.cell? ⟨g2, 5, none⟩ = some (.int .u64 (sn : Int)) ∧ W.cell? ⟨g1, 6, none⟩ = some (.int .u64 (ct : Int))) := fun W hW => by
    rw [hbo, hy, hsn, hct]
    exact ⟨(T2.out.drew.kept hW).cell 4, (R2.out.drew.kept hW).cell 4, (T2.out.drew.kept hW).cell 5, (R2.out.drew.kept hW).cell 6⟩
  clear hx hy hsn hct hbo
  by_cases h : y ≤ x
  · have dI : decide ((y : Int) ≤ (x : Int)) = true := decide_eq_true (by omega)
    have dN : decide (y ≤ x) = true := decide_eq_true h
    have hG : G = true := by rw [HD.out, dN]; rfl
    subst hG
    clear HD
    go_wp2_with fail
    refine wpG_begin (by kernel_rfl) ?_
    refine gU_ 0 rfl ⟨_, by intro W hW; go_simp <;> with_reducible rfl, ?_⟩
    try simp only [Act.put, pA_, pB_, pC_]
    refine gU_ 1 rfl ⟨_, by intro W hW; have cW := (HC1.out W hW).1; go_simp <;> with_reducible rfl, ?_⟩
    try simp only [Act.put, pA_, pB_, pC_]
    refine gU_ 2 rfl ⟨_, by intro W hW; go_simp <;> with_reducible rfl, ?_⟩
    try simp only [Act.put, pA_, pB_, pC_]
    refine gU_ 4 rfl ⟨_, by intro W hW; go_simp <;> with_reducible rfl, ?_⟩
    try simp only [Act.put, pA_, pB_, pC_]
    refine gU_ 5 rfl ⟨_, by intro W hW; have cW := (HC1.out W hW).2.1; go_simp <;> with_reducible rfl, ?_⟩
    try simp only [Act.put, pA_, pB_, pC_]
    refine gD_ 3 fun K hK => ?_
    go_simp
    refine (since22_any bo now HBo.out HN.out _).mono ?_
    rintro e wa ⟨rfl, rfl⟩
    rw [← HX.out]
    refine hK.out _ _ (Below.refl _ _) ?_
    clear hK K
    try simp only [Act.put, pA_, pB_, pC_]
    refine gU_ 6 rfl ⟨_, by intro W hW; go_simp <;> with_reducible rfl, ?_⟩
    try simp only [Act.put, pA_, pB_, pC_]
    refine gU_ 7 rfl ⟨_, by intro W hW; go_simp <;> with_reducible rfl, ?_⟩
    try simp only [Act.put, pA_, pB_, pC_]
    refine wpG_skip (i := 8) (nA rfl) (by kernel_rfl) (by kernel_rfl) (by kernel_rfl) (by rfl) ?_
    try simp only [Act.put, pA_, pB_, pC_]
    refine wpG_skip (i := 9) (nA rfl) (by kernel_rfl) (by kernel_rfl) (by kernel_rfl) (by rfl) ?_
    try simp only [Act.put, pA_, pB_, pC_]
    refine wpG_skip (i := 10) (nA rfl) (by kernel_rfl) (by kernel_rfl) (by kernel_rfl) (by rfl) ?_
    try simp only [Act.put, pA_, pB_, pC_]
    refine wpG_skip (i := 11) (nA rfl) (by kernel_rfl) (by kernel_rfl) (by kernel_rfl) (by rfl) ?_
    try simp only [Act.put, pA_, pB_, pC_]
    refine wpG_skip (i := 12) (nA rfl) (by kernel_rfl) (by kernel_rfl) (by kernel_rfl) (by rfl) ?_
    try simp only [Act.put, pA_, pB_, pC_]
    refine gU_ 13 rfl ⟨_, by intro W hW; go_simp <;> with_reducible rfl, ?_⟩
    try simp only [Act.put, pA_, pB_, pC_]
    refine gU_ 14 rfl ⟨_, by intro W hW; go_simp <;> with_reducible rfl, ?_⟩
    try simp only [Act.put, pA_, pB_, pC_]
    refine wpG_done (by kernel_rfl) ?_
    go_wp2
    go_ret
    exact ⟨rfl, HB2.out.drew⟩
  · have dI : decide ((y : Int) ≤ (x : Int)) = false := decide_eq_false (by omega)
    have dN : decide (y ≤ x) = false := decide_eq_false h
    have eI : decide ((ct : Int) ≤ (sn : Int)) = G := by rw [HD.out, dN]; exact decide_eq_decide.2 (by omega)
    have eN : decide (ct ≤ sn) = G := by rw [HD.out, dN]; rfl
    clear HD
    go_wp2_with fail
    refine wpG_begin (by kernel_rfl) ?_
    refine gU_ 0 rfl ⟨_, by intro W hW; go_simp <;> with_reducible rfl, ?_⟩
    try simp only [Act.put, pA_, pB_, pC_]
    refine gU_ 1 rfl ⟨_, by intro W hW; have cW := (HC1.out W hW).1; go_simp <;> with_reducible rfl, ?_⟩
    try simp only [Act.put, pA_, pB_, pC_]
    refine gU_ 2 rfl ⟨_, by intro W hW; go_simp <;> with_reducible rfl, ?_⟩
    try simp only [Act.put, pA_, pB_, pC_]
    refine gU_ 4 rfl ⟨_, by intro W hW; go_simp <;> with_reducible rfl, ?_⟩
    try simp only [Act.put, pA_, pB_, pC_]
    refine gU_ 5 rfl ⟨_, by intro W hW; have cW := (HC1.out W hW).2.1; go_simp <;> with_reducible rfl, ?_⟩
    try simp only [Act.put, pA_, pB_, pC_]
    refine gD_ 3 fun K hK => ?_
    go_simp
    refine (since22_any bo now HBo.out HN.out _).mono ?_
    rintro e wa ⟨rfl, rfl⟩
    rw [← HX.out]
    refine hK.out _ _ (Below.refl _ _) ?_
    clear hK K
    try simp only [Act.put, pA_, pB_, pC_]
    refine gU_ 6 rfl ⟨_, by intro W hW; go_simp <;> with_reducible rfl, ?_⟩
    try simp only [Act.put, pA_, pB_, pC_]
    refine gU_ 7 rfl ⟨_, by intro W hW; go_simp <;> with_reducible rfl, ?_⟩
    try simp only [Act.put, pA_, pB_, pC_]
    refine gU_ 8 rfl ⟨_, by intro W hW; go_simp <;> with_reducible rfl, ?_⟩
    try simp only [Act.put, pA_, pB_, pC_]
    refine gU_ 9 rfl ⟨_, by intro W hW; have cW := (HC1.out W hW).2.2.1; go_simp <;> with_reducible rfl, ?_⟩
    try simp only [Act.put, pA_, pB_, pC_]
    refine gU_ 10 rfl ⟨_, by intro W hW; go_simp <;> with_reducible rfl, ?_⟩
    try simp only [Act.put, pA_, pB_, pC_]
    refine gU_ 11 rfl ⟨_, by intro W hW; have cW := (HC1.out W hW).2.2.2; go_simp <;> with_reducible rfl, ?_⟩
    try simp only [Act.put, pA_, pB_, pC_]
    refine gU_ 12 rfl ⟨_, by intro W hW; go_simp <;> with_reducible rfl, ?_⟩
    try simp only [Act.put, pA_, pB_, pC_]
    refine gU_ 13 rfl ⟨_, by intro W hW; go_simp <;> with_reducible rfl, ?_⟩
    try simp only [Act.put, pA_, pB_, pC_]
    refine gU_ 14 rfl ⟨_, by intro W hW; go_simp <;> with_reducible rfl, ?_⟩
    try simp only [Act.put, pA_, pB_, pC_]
    refine wpG_done (by kernel_rfl) ?_
    go_wp2
    go_ret
    exact ⟨rfl, HB2.out.drew⟩
end Go.Proofs.YtliiofjcghdjoaaDoor

/- A session seals a text: contracts of the reference of layer 22, fourth part. -/
namespace Go.Proofs.YtliiofjcghdjoaaDoor
open Go.ChangeShapes Go.WideShapes Go.ChangeAt Go.RowKit
set_option linter.unusedSimpArgs false
set_option linter.unusedVariables false

/-- A session's cells. -/
def ssV (v1 : Value) (n1 : Nat) (v2 : Value) (n2 bo se : Nat) (v3 : Value) : List Value := [v1, .int .u64 (n1 : Int), v2, .int .u64 (n2 : Int), .int .u64 (bo : Int), .int .u64 (se : Int), v3]
def zss : List Value := ssV (.slice none 0 0) 0 (.slice none 0 0) 0 0 0 (.slice none 0 0)
theorem info_r22d : (Tryd.prog.info? 27).map (·.size) = some 7 := by kernel_rfl
theorem info_s22 : (Tryd.prog.info? 50).map (·.size) = some 7 := by kernel_rfl
theorem info_c22 : (Tryd.prog.info? 48).map (·.size) = some 2 := by kernel_rfl
theorem alloc_s22 (w : World) : (Instr.alloc 50 true (.tuple #[])).run Tryd.prog w = .ok (.pointer (some ⟨w.heap.size, 0, none⟩)) (w.alloc (.cells zss.toArray 50)) := by kernel_rfl
theorem one_s22 (a1 a2 a3 : Option Addr) (l1 c1 l2 c2 l3 c3 n1 n2 bo se : Nat) : (ssV (.slice a1 l1 c1) n1 (.slice a2 l2 c2) n2 bo se (.slice a3 l3 c3)).toArray.all (·.oneCell') = true := by kernel_rfl
theorem ssV_no8 (a1 a2 a3 : Option Addr) (l1 c1 l2 c2 l3 c3 n1 n2 bo se : Nat) : No8 (ssV (.slice a1 l1 c1) n1 (.slice a2 l2 c2) n2 bo se (.slice a3 l3 c3)) := No8.of_slices (by
  intro v hv x
  simp only [ssV, List.mem_cons, List.not_mem_nil, or_false] at hv
  rcases hv with rfl | rfl | rfl | rfl | rfl | rfl | rfl <;> simp)
theorem zss_no8 : No8 zss := ssV_no8 _ _ _ _ _ _ _ _ _ _ _ _ _
theorem st22_u64 {g j : Nat} {bt : TypeId} {cs : List Value} {old : Value} {w : World} {ops : Array Oper} {rest : List Oper} {op : Oper} {a : Act} {Q : Exit → Act → World → Prop} (hgd : op.guard = none) (x y : Operand) (ho : op.op = .store 22 x y) (hx : a.eval x = .pointer (some ⟨g, j, none⟩)) (X : Int) (hy : a.eval y = .int .u64 X)
    (hb : BlkAt g bt cs w) (hj : cs[j]? = some old) (h : ∀ w', BlkAt g bt (cs.set j (.int .u64 X)) w' → Wrote g w w' → wpList Tryd.prog ops Q rest (a.put op.dst undef) w') : wpList Tryd.prog ops Q (op :: rest) a w := by
  refine wpList_plain hgd fun K hK => ?_
  have hc : w.cell? ⟨g, j, none⟩ = some old := by rw [hb.cell]; exact hj
  have hf := hb.free j
  have h2 := hK _ _ (h _ (hb.set j _) (Wrote.set g j w _))
  unfold Oper.wp execOp
  simp only [ho, hx, hy]
  go_simp
  exact h2
theorem bodyPost_blk4 {P : Program} {fn : Func} {p q r t : Tmp} {ty bt : TypeId} {g : Nat} {cs : List Value} {d : TypeDesc} {v u z : Value} {R : Ending → World → Prop} {a : Act} {w : World} (h : fn.results = #[.cell p ty, .tmp q, .tmp r, .tmp t]) (hd : a.defers = [])
    (hp : a.tmps.getD p undef = .pointer (some ⟨g, 0, none⟩)) (hq : a.tmps.getD q undef = v) (hr : a.tmps.getD r undef = u) (ht : a.tmps.getD t undef = z) (hb : BlkAt g bt cs w) (hu : P.underlying ty = some d) (hrow : d.isRow = true) (hi : (P.info? ty).map (·.size) = some cs.length)
    (hR : R (.returned (.tuple #[.agg cs.toArray, v, u, z])) w) : bodyPost P fn R .ret a w := by
  refine bodyPost_ret ?_ hd hR
  have hp' : a.tmps[p]?.getD undef = .pointer (some ⟨g, 0, none⟩) := by simpa using hp
  have hq' : a.tmps[q]?.getD undef = v := by simpa using hq
  have hr' : a.tmps[r]?.getD undef = u := by simpa using hr
  have ht' : a.tmps[t]?.getD undef = z := by simpa using ht
  have hb' : BlkAt g bt (([] : List Value) ++ cs ++ []) w := by simpa using hb
  have hl := run_loadVar_mid (P := P) w g 0 ty cs d hb'.range hu hrow hi
  simp [results, h, hp', hq', hr', ht', asAddr, hl]

set_option maxRecDepth 100000 in
set_option maxHeartbeats 8000000 in
theorem seal22_any (r : Rl) (hr : RlW r) (s : Ses) (hs : SesW s) (v1 v2 v3 vt : Value) (t : List UInt8) (hlt : t.length ≤ 3000000) (now : Nat) (hn : now < 18446744073709551616) (A B : Array Value) (hA : A = (rlC r).toArray) (hB : B = (ssC s v1 v2 v3).toArray) (w : World) (hS : SsR w s v1 v2 v3) (ht : Rd w vt t) :
    Calls Tryd.prog 18 #[.agg A, .agg B, vt, .int .u64 (now : Int)] w fun e w' => ∃ x, e = .returned (.tuple #[.agg (ssC (ssS r s t now).1 v1 v2 v3).toArray, .int .u64 (((ssS r s t now).2.1 : Nat) : Int), x, .int .i64 (ssS r s t now).2.2.2]) ∧ Rd w' x (ssS r s t now).2.2.1 ∧ Below w.heap.size w w' := by
  have hEx : Hid (∀ W, Calls Tryd.prog 25 #[.agg (rlC r).toArray, .agg (ssC s v1 v2 v3).toArray, .int .u64 (now : Int)] W fun e w' => e = .returned (.bool (exB r s now)) ∧ Below W.heap.size W w') := fun W => expired22_any r s hs v1 v2 v3 now hn _ _ rfl rfl W
  have hse : exB r s now = false → s.sent + 1 < 18446744073709551616 := exB_sent hr
  have hG : ssS r s t now = if exB r s now = true then (s, 0, [], 52) else if (seC s.snd [] t).2.2 ≠ 0 then (s, 0, [], (seC s.snd [] t).2.2) else (⟨(seC s.snd [] t).1, s.rcv, s.born, s.sent + 1, s.came⟩, s.snd.n, (seC s.snd [] t).2.1, 0) := rfl
  have hSl : Hid (∀ W, Below w.heap.size w W → Calls Tryd.prog 30 #[.agg (ciC v1 s.snd.n).toArray, .slice none 0 0, vt] W fun e w' => ∃ x, e = .returned (.tuple #[.agg (ciC v1 (seC s.snd [] t).1.n).toArray, x, .int .i64 (seC s.snd [] t).2.2]) ∧ Rd w' x (seC s.snd [] t).2.1 ∧ Below W.heap.size W w') := fun W hW => seal16_any s.snd v1 _ vt [] t _ rfl hs.sn (by decide) hlt W (hS.snd.kept hW) (Rd.nil _) (ht.kept hW)
  obtain ⟨a1, c1, rfl, -⟩ := id hS.snd
  obtain ⟨a2, c2, rfl, -⟩ := id hS.rcv
  obtain ⟨a3, c3, rfl, -⟩ := id hS.came
  obtain ⟨at', ct, rfl, -⟩ := id ht
  obtain ⟨⟨k1, n1⟩, ⟨k2, n2⟩, bo, se, cm⟩ := s
  simp only at hEx hse hG hSl hB
  obtain ⟨G, hGe⟩ : ∃ G, G = ssS r ⟨⟨k1, n1⟩, ⟨k2, n2⟩, bo, se, cm⟩ t now := ⟨_, rfl⟩
  rw [← hGe] at hG ⊢
  clear hGe
  generalize exB r ⟨⟨k1, n1⟩, ⟨k2, n2⟩, bo, se, cm⟩ now = ex at hEx hse hG
  generalize seC ⟨k1, n1⟩ [] t = q at hSl hG
  obtain ⟨⟨qk, qn⟩, qt, qe⟩ := q
  simp only at hSl hG
  obtain ⟨l1, hl1⟩ : ∃ l, l = k1.length := ⟨_, rfl⟩
  obtain ⟨l2, hl2⟩ : ∃ l, l = k2.length := ⟨_, rfl⟩
  obtain ⟨l3, hl3⟩ : ∃ l, l = (nU cm).length := ⟨_, rfl⟩
  have HB : Hid (B = (ssV (.slice a1 l1 c1) n1 (.slice a2 l2 c2) n2 bo se (.slice a3 l3 c3)).toArray) := (by rw [hB, hl1, hl2, hl3]; rfl : B = (ssV (.slice a1 l1 c1) n1 (.slice a2 l2 c2) n2 bo se (.slice a3 l3 c3)).toArray)
  have HEx : Hid (∀ W, Calls Tryd.prog 25 #[.agg (rlC r).toArray, .agg (ssV (.slice a1 l1 c1) n1 (.slice a2 l2 c2) n2 bo se (.slice a3 l3 c3)).toArray, .int .u64 (now : Int)] W fun e w' => e = .returned (.bool ex) ∧ Below W.heap.size W w') := (by rw [hl1, hl2, hl3]; exact hEx.out)
  have HSl : Hid (∀ W, Below w.heap.size w W → Calls Tryd.prog 30 #[.agg (ciC (.slice a1 l1 c1) n1).toArray, .slice none 0 0, .slice at' t.length ct] W fun e w' => ∃ x, e = .returned (.tuple #[.agg (ciC (.slice a1 l1 c1) qn).toArray, x, .int .i64 qe]) ∧ Rd w' x qt ∧ Below W.heap.size W w') := (by rw [hl1]; exact hSl.out)
  have HCl : Hid (∀ S : Ses, ssC S (.slice a1 k1.length c1) (.slice a2 k2.length c2) (.slice a3 (nU cm).length c3) = ssV (.slice a1 l1 c1) S.snd.n (.slice a2 l2 c2) S.rcv.n S.born S.sent (.slice a3 l3 c3)) := fun S => by rw [hl1, hl2, hl3]; rfl
  have HA : Hid (A = (rlC r).toArray) := hA
  have HG : Hid (G = if ex = true then (⟨⟨k1, n1⟩, ⟨k2, n2⟩, bo, se, cm⟩, 0, [], 52) else if qe ≠ 0 then (⟨⟨k1, n1⟩, ⟨k2, n2⟩, bo, se, cm⟩, 0, [], qe) else (⟨⟨qk, qn⟩, ⟨k2, n2⟩, bo, se + 1, cm⟩, n1, qt, 0)) := hG
  have HSe : Hid (ex = false → se + 1 < 18446744073709551616) := hse
  clear hA hB hEx hSl hG hse hS ht hl1 hl2 hl3 hs hr
  go_enter Tryd.func18, Tryd.ntmps18
  go_wp2_with (refine wpList_box_blk rfl 27 _ rfl (rlC r) (by rw [← HA.out]; rfl) ?_)
  intro w1 r1 b1 s1
  go_wp2_with (refine wpList_box_blk rfl 50 _ rfl (ssV (.slice a1 l1 c1) n1 (.slice a2 l2 c2) n2 bo se (.slice a3 l3 c3)) (by rw [← HB.out]; rfl) ?_)
  intro w2 r2 b2 s2
  go_wp2_with (refine wpList_alloc_blk rfl 50 rfl zss (alloc_s22 _) ?_)
  intro w3 r3 b3 s3
  obtain ⟨g1, hg1⟩ : ∃ n : Nat, n = w.heap.size := ⟨_, rfl⟩
  obtain ⟨g2, hg2⟩ : ∃ n : Nat, n = w1.heap.size := ⟨_, rfl⟩
  obtain ⟨g3, hg3⟩ : ∃ n : Nat, n = w2.heap.size := ⟨_, rfl⟩
  rw [← hg1] at r1 ⊢
  rw [← hg2] at r2 ⊢
  rw [← hg3] at r3 ⊢
  have HGe : Hid (g1 < g2 ∧ g2 < g3 ∧ w.heap.size ≤ g2) := ⟨by rw [hg2]; exact r1.lt, by rw [hg3]; exact r2.lt, by rw [hg2]; exact b1.size⟩
  have R3 : Hid (BlkAt g1 27 (rlC r) w3) := (r1.kept b2).kept b3
  have T3 : Hid (BlkAt g2 50 (ssV (.slice a1 l1 c1) n1 (.slice a2 l2 c2) n2 bo se (.slice a3 l3 c3)) w3) := r2.kept b3
  have Z3 : Hid (BlkAt g3 50 zss w3) := r3
  have HB3 : Hid (Below w.heap.size w w3) := stepB (stepB b1 b2) b3
  clear r1 r2 r3 b1 b2 b3 s1 s2 s3 hg1 hg2 hg3 HA HB
  go_wp2_with (first | refine wpList_load_part rfl 27 _ rfl rfl [] (rlC r) [] R3.out (by simp) rfl Tryd.underlying27 rfl info_r22d ?_ | refine wpList_load_part rfl 50 _ rfl rfl [] (ssV (.slice a1 l1 c1) n1 (.slice a2 l2 c2) n2 bo se (.slice a3 l3 c3)) [] T3.out (by simp) rfl Tryd.underlying50 rfl info_s22 ?_)
  refine (HEx.out _).mono ?_
  rintro e w4 ⟨rfl, b4⟩
  have T4 : Hid (BlkAt g2 50 (ssV (.slice a1 l1 c1) n1 (.slice a2 l2 c2) n2 bo se (.slice a3 l3 c3)) w4) := T3.out.kept b4
  have Z4 : Hid (BlkAt g3 50 zss w4) := Z3.out.kept b4
  have HB4 : Hid (Below w.heap.size w w4) := stepB HB3.out b4
  clear b4 R3 T3 Z3 HB3 HEx
  cases ex
  rotate_left
  · have hG : G = (⟨⟨k1, n1⟩, ⟨k2, n2⟩, bo, se, cm⟩, 0, [], 52) := HG.out
    subst hG
    clear HG HSe HSl
    go_wp2_with (first | refine wpList_load_part rfl 50 _ rfl rfl [] (ssV (.slice a1 l1 c1) n1 (.slice a2 l2 c2) n2 bo se (.slice a3 l3 c3)) [] T4.out (by simp) rfl Tryd.underlying50 rfl info_s22 ?_ | (refine wpList_store_part rfl 50 _ _ rfl rfl (ssV (.slice a1 l1 c1) n1 (.slice a2 l2 c2) n2 bo se (.slice a3 l3 c3)) rfl [] zss [] (ssV (.slice a1 l1 c1) n1 (.slice a2 l2 c2) n2 bo se (.slice a3 l3 c3)) Z4.out (by simp) (by simp) rfl rfl info_s22 (one_s22 _ _ _ _ _ _ _ _ _ _ _ _ _) ?_; intro wz wzr wzw))
    have wzr2 : BlkAt g3 50 (ssV (.slice a1 l1 c1) n1 (.slice a2 l2 c2) n2 bo se (.slice a3 l3 c3)) wz := by simpa using wzr
    refine bodyPost_blk4 rfl rfl rfl rfl rfl rfl wzr2 Tryd.underlying50 rfl info_s22 ?_
    rw [HCl.out]
    exact ⟨_, rfl, Rd.nil _, wzw.below _ _ (by have := HGe.out; omega) HB4.out⟩
  replace HG : Hid (G = if qe ≠ 0 then (⟨⟨k1, n1⟩, ⟨k2, n2⟩, bo, se, cm⟩, 0, [], qe) else (⟨⟨qk, qn⟩, ⟨k2, n2⟩, bo, se + 1, cm⟩, n1, qt, 0)) := HG.out
  have hse := HSe.out rfl
  go_wp2_with (refine wpList_load_part rfl 48 _ rfl rfl [] (ciC (.slice a1 l1 c1) n1) [.slice a2 l2 c2, .int .u64 (n2 : Int), .int .u64 (bo : Int), .int .u64 (se : Int), .slice a3 l3 c3] T4.out (by rfl) rfl Tryd.underlying48 rfl info_c22 ?_)
  refine (HSl.out _ HB4.out).mono ?_
  rintro e w5 ⟨x, rfl, hX5, b5⟩
  obtain ⟨ax, cx, rfl, -⟩ := id hX5
  have HX5 : Hid (Rd w5 (.slice ax qt.length cx) qt) := hX5
  have T5 : Hid (BlkAt g2 50 (ssV (.slice a1 l1 c1) n1 (.slice a2 l2 c2) n2 bo se (.slice a3 l3 c3)) w5) := T4.out.kept b5
  have Z5 : Hid (BlkAt g3 50 zss w5) := Z4.out.kept b5
  have HB5 : Hid (Below w.heap.size w w5) := stepB HB4.out b5
  clear b5 hX5 T4 Z4 HB4 HSl HSe
  obtain ⟨lx, hlx⟩ : ∃ l, l = qt.length := ⟨_, rfl⟩
  rw [← hlx] at HX5 ⊢
  clear hlx
  go_wp2_with (refine wpList_alloc_blk rfl 48 rfl (ciC (.slice none 0 0) 0) (alloc_ci _) ?_)
  intro w6 r6 b6 s6
  obtain ⟨g4, hg4⟩ : ∃ n : Nat, n = w5.heap.size := ⟨_, rfl⟩
  rw [← hg4] at r6 ⊢
  have HG4 : Hid (g3 < g4 ∧ w5.heap.size ≤ g4) := ⟨by rw [hg4]; exact Z5.out.lt, by omega⟩
  clear hg4 s6
  go_wp2_with (refine wpList_store_part rfl 48 _ _ rfl rfl (ciC (.slice a1 l1 c1) qn) rfl [] (ciC (.slice none 0 0) 0) [] (ciC (.slice a1 l1 c1) qn) r6 (by simp) (by simp) rfl rfl info_c22 (ciC_all _ _ _ _) ?_)
  intro w7 r7 hw7
  have hb7 := hw7.below _ _ HG4.out.2 b6
  have C7 : Hid (BlkAt g4 48 (ciC (.slice a1 l1 c1) qn) w7) := (by simpa using r7 : BlkAt g4 48 (ciC (.slice a1 l1 c1) qn) w7)
  have T7 : Hid (BlkAt g2 50 (ssV (.slice a1 l1 c1) n1 (.slice a2 l2 c2) n2 bo se (.slice a3 l3 c3)) w7) := T5.out.kept hb7
  have Z7 : Hid (BlkAt g3 50 zss w7) := Z5.out.kept hb7
  have HX7 : Hid (Rd w7 (.slice ax lx cx) qt) := HX5.out.kept hb7
  have HB7 : Hid (Below w.heap.size w w7) := stepB HB5.out hb7
  clear r6 r7 b6 hw7 hb7 T5 Z5 HX5 HB5
  by_cases hq : qe = 0
  rotate_left
  · have d : (qe != 0) = true := by simpa using hq
    have hG : G = (⟨⟨k1, n1⟩, ⟨k2, n2⟩, bo, se, cm⟩, 0, [], qe) := by rw [HG.out, if_pos hq]
    subst hG
    clear HG hq
    go_wp2_with (first | refine wpList_load_part rfl 50 _ rfl rfl [] (ssV (.slice a1 l1 c1) n1 (.slice a2 l2 c2) n2 bo se (.slice a3 l3 c3)) [] T7.out (by simp) rfl Tryd.underlying50 rfl info_s22 ?_ | (refine wpList_store_part rfl 50 _ _ rfl rfl (ssV (.slice a1 l1 c1) n1 (.slice a2 l2 c2) n2 bo se (.slice a3 l3 c3)) rfl [] zss [] (ssV (.slice a1 l1 c1) n1 (.slice a2 l2 c2) n2 bo se (.slice a3 l3 c3)) Z7.out (by simp) (by simp) rfl rfl info_s22 (one_s22 _ _ _ _ _ _ _ _ _ _ _ _ _) ?_; intro wz wzr wzw))
    have wzr2 : BlkAt g3 50 (ssV (.slice a1 l1 c1) n1 (.slice a2 l2 c2) n2 bo se (.slice a3 l3 c3)) wz := by simpa using wzr
    refine bodyPost_blk4 rfl rfl rfl rfl rfl rfl wzr2 Tryd.underlying50 rfl info_s22 ?_
    rw [HCl.out]
    exact ⟨_, rfl, Rd.nil _, wzw.below _ _ (by have := HGe.out; omega) HB7.out⟩
  have d : (qe != 0) = false := by rw [hq]; rfl
  have hG : G = (⟨⟨qk, qn⟩, ⟨k2, n2⟩, bo, se + 1, cm⟩, n1, qt, 0) := by rw [HG.out, if_neg (fun h => h hq)]
  subst hG
  clear HG
  have cn : w7.cell? ⟨g2, 1, none⟩ = some (.int .u64 (n1 : Int)) := T7.out.cell 1
  have hwr : IntKind.u64.wrap ((se : Int) + 1) = ((se + 1 : Nat) : Int) := by rw [IntKind.wrap_u64]; omega
  obtain ⟨se1, hse1⟩ : ∃ z, z = se + 1 := ⟨_, rfl⟩
  rw [← hse1] at hwr
  have HSe1 : Hid (se1 = se + 1) := hse1
  clear hse hse1
  go_wp2_with (first | refine wpList_load_part rfl 48 _ rfl rfl [] (ciC (.slice a1 l1 c1) qn) [] C7.out (by simp) rfl Tryd.underlying48 rfl info_c22 ?_ | (refine wpList_store_part rfl 48 _ _ rfl rfl (ciC (.slice a1 l1 c1) qn) rfl [] (ciC (.slice a1 l1 c1) n1) [.slice a2 l2 c2, .int .u64 (n2 : Int), .int .u64 (bo : Int), .int .u64 (se : Int), .slice a3 l3 c3] (ssV (.slice a1 l1 c1) qn (.slice a2 l2 c2) n2 bo se (.slice a3 l3 c3)) T7.out (by rfl) (by rfl) rfl rfl info_c22 (ciC_all _ _ _ _) ?_))
  intro w8 r8 hw8
  have Z8 : Hid (BlkAt g3 50 zss w8) := Z7.out.wrote hw8 (by have := HGe.out; omega)
  have T8 : Hid (BlkAt g2 50 (ssV (.slice a1 l1 c1) qn (.slice a2 l2 c2) n2 bo se (.slice a3 l3 c3)) w8) := r8
  have HX8 : Hid (Rd w8 (.slice ax lx cx) qt) := HX7.out.past16 T7.out (ssV_no8 _ _ _ _ _ _ _ _ _ _ _ _ _) (Chg.of_wrote hw8)
  have HB8 : Hid (Below w.heap.size w w8) := hw8.below _ _ HGe.out.2.2 HB7.out
  have cs8 : w8.cell? ⟨g2, 5, none⟩ = some (.int .u64 (se : Int)) := T8.out.cell 5
  clear r8 hw8 T7 Z7 HB7 cn C7
  go_wp2_with (refine st22_u64 rfl _ _ rfl rfl (se1 : Int) rfl T8.out rfl ?_)
  intro w9 r9 hw9
  have Z9 : Hid (BlkAt g3 50 zss w9) := Z8.out.wrote hw9 (by have := HGe.out; omega)
  have T9 : Hid (BlkAt g2 50 (ssV (.slice a1 l1 c1) qn (.slice a2 l2 c2) n2 bo se1 (.slice a3 l3 c3)) w9) := r9
  have HX9 : Hid (Rd w9 (.slice ax lx cx) qt) := HX8.out.past16 T8.out (ssV_no8 _ _ _ _ _ _ _ _ _ _ _ _ _) (Chg.of_wrote hw9)
  have HB9 : Hid (Below w.heap.size w w9) := hw9.below _ _ HGe.out.2.2 HB8.out
  clear cs8 Z8 T8 HB8
  go_wp2_with (first | refine wpList_load_part rfl 50 _ rfl rfl [] (ssV (.slice a1 l1 c1) qn (.slice a2 l2 c2) n2 bo se1 (.slice a3 l3 c3)) [] T9.out (by simp) rfl Tryd.underlying50 rfl info_s22 ?_ | (refine wpList_store_part rfl 50 _ _ rfl rfl (ssV (.slice a1 l1 c1) qn (.slice a2 l2 c2) n2 bo se1 (.slice a3 l3 c3)) rfl [] zss [] (ssV (.slice a1 l1 c1) qn (.slice a2 l2 c2) n2 bo se1 (.slice a3 l3 c3)) Z9.out (by simp) (by simp) rfl rfl info_s22 (one_s22 _ _ _ _ _ _ _ _ _ _ _ _ _) ?_; intro wz wzr wzw))
  have wzr2 : BlkAt g3 50 (ssV (.slice a1 l1 c1) qn (.slice a2 l2 c2) n2 bo se1 (.slice a3 l3 c3)) wz := by simpa using wzr
  refine bodyPost_blk4 rfl rfl rfl rfl rfl rfl wzr2 Tryd.underlying50 rfl info_s22 ?_
  rw [HCl.out, HSe1.out]
  have hXz : Rd wz (.slice ax lx cx) qt := HX9.out.past16 Z9.out zss_no8 (Chg.of_wrote wzw)
  exact ⟨_, rfl, hXz, wzw.below _ _ (by have := HGe.out; omega) HB9.out⟩
end Go.Proofs.YtliiofjcghdjoaaDoor

/- A session opens what was sealed: contracts of the reference of layer 22, fifth part. -/
namespace Go.Proofs.YtliiofjcghdjoaaDoor
open Go.ChangeShapes Go.WideShapes Go.ChangeAt Go.RowKit
set_option linter.unusedSimpArgs false
set_option linter.unusedVariables false

theorem own_ne22 {w : World} {base sz g : Nat} {e ty : TypeId} {v : Value} {n : Nat} {xs cs : List Value} (h : w.ownsRow base e sz v n xs) (hb : BlkAt g ty cs w) (hne : ty ≠ e) : ∀ b, v.ownBlock = some b → b ≠ g := by
  intro b hb' e1
  subst e1
  rcases h.2 with ⟨rfl, h0⟩ | ⟨g', cap, cur, rfl, h1, h2, h3⟩
  · simp [Value.ownBlock] at hb'
  · have h4 : g' = b := by simpa [Value.ownBlock] using hb'
    subst h4
    unfold BlkAt at hb
    rw [h2] at hb
    simp at hb
    exact hne hb.2.symm
theorem st22_sl {g j : Nat} {bt : TypeId} {cs : List Value} {old : Value} {w : World} {ops : Array Oper} {rest : List Oper} {op : Oper} {a : Act} {Q : Exit → Act → World → Prop} (hgd : op.guard = none) (x y : Operand) (ho : op.op = .store 25 x y) (hx : a.eval x = .pointer (some ⟨g, j, none⟩)) (A : Option Addr) (n c : Nat) (hy : a.eval y = .slice A n c)
    (hb : BlkAt g bt cs w) (hj : cs[j]? = some old) (h : ∀ w', BlkAt g bt (cs.set j (.slice A n c)) w' → Wrote g w w' → wpList Tryd.prog ops Q rest (a.put op.dst undef) w') : wpList Tryd.prog ops Q (op :: rest) a w := by
  refine wpList_plain hgd fun K hK => ?_
  have hc : w.cell? ⟨g, j, none⟩ = some old := by rw [hb.cell]; exact hj
  have hf := hb.free j
  have h2 := hK _ _ (h _ (hb.set j _) (Wrote.set g j w _))
  unfold Oper.wp execOp
  simp only [ho, hx, hy]
  go_simp
  exact h2
theorem build_c22 (a : Option Addr) (l c n : Nat) (w : World) : (Instr.build 48 #[(0, .slice a l c), (1, .int .u64 (n : Int))]).run Tryd.prog w = .ok (.agg (ciC (.slice a l c) n).toArray) w := by kernel_rfl

set_option maxRecDepth 100000 in
set_option maxHeartbeats 8000000 in
theorem open22_any (r : Rl) (s : Ses) (hs : SesW s) (hcl : s.came.length ≤ 1000000) (v1 v2 v3 vb : Value) (n : Nat) (hn64 : n < 18446744073709551616) (b : List UInt8) (hlb : b.length ≤ 3000000) (now : Nat) (hn : now < 18446744073709551616) (A B : Array Value) (hA : A = (rlC r).toArray) (hB : B = (ssC s v1 v2 v3).toArray) (w : World) (hS : SsR w s v1 v2 v3) (hb : Rd w vb b) :
    Calls Tryd.prog 20 #[.agg A, .agg B, .int .u64 (n : Int), vb, .int .u64 (now : Int)] w fun e w' => ∃ v3' x, e = .returned (.tuple #[.agg (ssC (ssO r s n b now).1 v1 v2 v3').toArray, x, .int .i64 (ssO r s n b now).2.2]) ∧ (v3' = v3 ∨ ∀ k, v3'.ownBlock = some k → w.heap.size ≤ k ∧ k < w'.heap.size) ∧ RdI .u64 w' v3' (nU (ssO r s n b now).1.came) ∧ Rd w' x (ssO r s n b now).2.1 ∧ Below w.heap.size w w' := by
  have hG : ssO r s n b now = if r.expire ≤ snN s.born now then (s, [], 52) else if cmE s.came n ≠ 0 then (s, [], cmE s.came n) else if (opC ⟨s.rcv.key, n⟩ [] b).2.2 ≠ 0 then (s, [], (opC ⟨s.rcv.key, n⟩ [] b).2.2) else (⟨s.snd, s.rcv, s.born, s.sent, (mkL s.came n).1⟩, (opC ⟨s.rcv.key, n⟩ [] b).2.1, 0) := rfl
  have hCk : ∀ W, Below w.heap.size w W → Calls Tryd.prog 35 #[v3, .int .u64 (n : Int)] W fun e w' => e = .returned (.int .i64 (cmE s.came n)) ∧ w' = W := fun W hW => check20_any v3 s.came hs.came n hn64 W (hS.came.kept hW)
  have hMk : cmE s.came n = 0 → ∀ W, Below w.heap.size w W → Calls Tryd.prog 37 #[v3, .int .u64 (n : Int)] W fun e w' => ∃ v', e = .returned (.tuple #[v', .int .i64 0]) ∧ NewI .u64 22 W v' (nU (s.came ++ [n])) w' := fun h W hW => mark20_new v3 s.came hs.came hcl n hn64 h W (hS.came.kept hW)
  have hOp : ∀ W, Below w.heap.size w W → Calls Tryd.prog 36 #[.agg (ciC v2 n).toArray, .slice none 0 0, vb] W fun e w' => ∃ x, e = .returned (.tuple #[.agg (ciC v2 (opC ⟨s.rcv.key, n⟩ [] b).1.n).toArray, x, .int .i64 (opC ⟨s.rcv.key, n⟩ [] b).2.2]) ∧ Rd w' x (opC ⟨s.rcv.key, n⟩ [] b).2.1 ∧ Below W.heap.size W w' := fun W hW => open16_any ⟨s.rcv.key, n⟩ v2 _ vb [] b _ rfl hn64 (by decide) hlb W (hS.rcv.kept hW) (Rd.nil _) (hb.kept hW)
  have hmk : cmE s.came n = 0 → mkL s.came n = (s.came ++ [n], 0) := mkL_ok
  have HBo : Hid (s.born < 18446744073709551616) := hs.born
  have HN : Hid (now < 18446744073709551616) := hn
  have hCm : RdI .u64 w v3 (nU s.came) := hS.came
  obtain ⟨a1, c1, rfl, -⟩ := id hS.snd
  obtain ⟨a2, c2, rfl, -⟩ := id hS.rcv
  obtain ⟨a3, c3, rfl, -⟩ := id hS.came
  obtain ⟨at', ct, rfl, -⟩ := id hb
  obtain ⟨⟨k1, n1⟩, ⟨k2, n2⟩, bo, se, cm⟩ := s
  simp only at hG hCk hMk hOp hmk HBo hCm hB
  obtain ⟨G, hGe⟩ : ∃ G, G = ssO r ⟨⟨k1, n1⟩, ⟨k2, n2⟩, bo, se, cm⟩ n b now := ⟨_, rfl⟩
  rw [← hGe] at hG ⊢
  clear hGe
  generalize cmE cm n = ck at hG hCk hMk hmk
  generalize opC ⟨k2, n⟩ [] b = q at hOp hG
  obtain ⟨⟨qk, qn⟩, qt, qe⟩ := q
  simp only at hOp hG
  obtain ⟨l1, hl1⟩ : ∃ l, l = k1.length := ⟨_, rfl⟩
  obtain ⟨l2, hl2⟩ : ∃ l, l = k2.length := ⟨_, rfl⟩
  obtain ⟨l3, hl3⟩ : ∃ l, l = (nU cm).length := ⟨_, rfl⟩
  have HB : Hid (B = (ssV (.slice a1 l1 c1) n1 (.slice a2 l2 c2) n2 bo se (.slice a3 l3 c3)).toArray) := (by rw [hB, hl1, hl2, hl3]; rfl : B = (ssV (.slice a1 l1 c1) n1 (.slice a2 l2 c2) n2 bo se (.slice a3 l3 c3)).toArray)
  have HCl : Hid (∀ (S : Ses) (v : Value), ssC S (.slice a1 k1.length c1) (.slice a2 k2.length c2) v = ssV (.slice a1 l1 c1) S.snd.n (.slice a2 l2 c2) S.rcv.n S.born S.sent v) := fun S v => by rw [hl1, hl2]; rfl
  have HL3 : Hid (l3 = (nU cm).length) := hl3
  have HCk : Hid (∀ W, Below w.heap.size w W → Calls Tryd.prog 35 #[.slice a3 l3 c3, .int .u64 (n : Int)] W fun e w' => e = .returned (.int .i64 ck) ∧ w' = W) := (by rw [hl3]; exact hCk)
  have HMk : Hid (ck = 0 → ∀ W, Below w.heap.size w W → Calls Tryd.prog 37 #[.slice a3 l3 c3, .int .u64 (n : Int)] W fun e w' => ∃ v', e = .returned (.tuple #[v', .int .i64 0]) ∧ NewI .u64 22 W v' (nU (cm ++ [n])) w') := (by rw [hl3]; exact hMk)
  have HOp : Hid (∀ W, Below w.heap.size w W → Calls Tryd.prog 36 #[.agg (ciC (.slice a2 l2 c2) n).toArray, .slice none 0 0, .slice at' b.length ct] W fun e w' => ∃ x, e = .returned (.tuple #[.agg (ciC (.slice a2 l2 c2) qn).toArray, x, .int .i64 qe]) ∧ Rd w' x qt ∧ Below W.heap.size W w') := (by rw [hl2]; exact hOp)
  have HA : Hid (A = (rlC r).toArray) := hA
  obtain ⟨x0, hx0⟩ : ∃ x, x = snN bo now := ⟨_, rfl⟩
  obtain ⟨y0, hy0⟩ : ∃ y, y = r.expire := ⟨_, rfl⟩
  rw [← hx0, ← hy0] at hG
  have HX0 : Hid (x0 = snN bo now) := hx0
  have HY0 : Hid (y0 = r.expire) := hy0
  have HG : Hid (G = if y0 ≤ x0 then (⟨⟨k1, n1⟩, ⟨k2, n2⟩, bo, se, cm⟩, [], 52) else if ck ≠ 0 then (⟨⟨k1, n1⟩, ⟨k2, n2⟩, bo, se, cm⟩, [], ck) else if qe ≠ 0 then (⟨⟨k1, n1⟩, ⟨k2, n2⟩, bo, se, cm⟩, [], qe) else (⟨⟨k1, n1⟩, ⟨k2, n2⟩, bo, se, (mkL cm n).1⟩, qt, 0)) := hG
  have HMl : Hid (ck = 0 → mkL cm n = (cm ++ [n], 0)) := hmk
  have HCm : Hid (RdI .u64 w (.slice a3 (nU cm).length c3) (nU cm)) := hCm
  clear hA hB hCk hMk hOp hG hmk hS hb hl1 hl2 hl3 hs hn hx0 hy0 hCm hcl hn64
  go_enter Tryd.func20, Tryd.ntmps20
  go_wp2_with (refine wpList_box_blk rfl 27 _ rfl (rlC r) (by rw [← HA.out]; rfl) ?_)
  intro w1 r1 b1 s1
  go_wp2_with (refine wpList_box_blk rfl 50 _ rfl (ssV (.slice a1 l1 c1) n1 (.slice a2 l2 c2) n2 bo se (.slice a3 l3 c3)) (by rw [← HB.out]; rfl) ?_)
  intro w2 r2 b2 s2
  go_wp2_with (refine wpList_alloc_blk rfl 50 rfl zss (alloc_s22 _) ?_)
  intro w3 r3 b3 s3
  obtain ⟨g1, hg1⟩ : ∃ n : Nat, n = w.heap.size := ⟨_, rfl⟩
  obtain ⟨g2, hg2⟩ : ∃ n : Nat, n = w1.heap.size := ⟨_, rfl⟩
  obtain ⟨g3, hg3⟩ : ∃ n : Nat, n = w2.heap.size := ⟨_, rfl⟩
  rw [← hg1] at r1 ⊢
  rw [← hg2] at r2 ⊢
  rw [← hg3] at r3 ⊢
  have HGe : Hid (g1 < g2 ∧ g2 < g3 ∧ w.heap.size ≤ g2) := ⟨by rw [hg2]; exact r1.lt, by rw [hg3]; exact r2.lt, by rw [hg2]; exact b1.size⟩
  have R3 : Hid (BlkAt g1 27 (rlC r) w3) := (r1.kept b2).kept b3
  have T3 : Hid (BlkAt g2 50 (ssV (.slice a1 l1 c1) n1 (.slice a2 l2 c2) n2 bo se (.slice a3 l3 c3)) w3) := r2.kept b3
  have Z3 : Hid (BlkAt g3 50 zss w3) := r3
  have HB3 : Hid (Below w.heap.size w w3) := stepB (stepB b1 b2) b3
  clear r1 r2 r3 b1 b2 b3 s1 s2 s3 hg1 hg2 hg3 HA HB
  by_cases hx : y0 ≤ x0
  · have dI : decide ((y0 : Int) ≤ (x0 : Int)) = true := decide_eq_true (by omega)
    have dN : decide (y0 ≤ x0) = true := decide_eq_true hx
    have hG : G = (⟨⟨k1, n1⟩, ⟨k2, n2⟩, bo, se, cm⟩, [], 52) := by rw [HG.out, if_pos hx]
    subst hG
    clear HG
    go_wp2_with fail
    refine wpG_begin (by kernel_rfl) ?_
    refine gU_ 0 rfl ⟨_, by intro W hW; go_simp <;> with_reducible rfl, ?_⟩
    try simp only [Act.put, pA_, pB_, pC_]
    refine gU_ 1 rfl ⟨_, by intro W hW; have cW : W.cell? ⟨g2, 4, none⟩ = some (.int .u64 (bo : Int)) := (T3.out.drew.kept hW).cell 4; go_simp <;> with_reducible rfl, ?_⟩
    try simp only [Act.put, pA_, pB_, pC_]
    refine gU_ 2 rfl ⟨_, by intro W hW; go_simp <;> with_reducible rfl, ?_⟩
    try simp only [Act.put, pA_, pB_, pC_]
    refine gU_ 4 rfl ⟨_, by intro W hW; go_simp <;> with_reducible rfl, ?_⟩
    try simp only [Act.put, pA_, pB_, pC_]
    refine gU_ 5 rfl ⟨_, by intro W hW; have cW : W.cell? ⟨g1, 4, none⟩ = some (.int .u64 (y0 : Int)) := (by rw [HY0.out]; exact (R3.out.drew.kept hW).cell 4); go_simp <;> with_reducible rfl, ?_⟩
    try simp only [Act.put, pA_, pB_, pC_]
    refine gD_ 3 fun K hK => ?_
    go_simp
    refine (since22_any bo now HBo.out HN.out _).mono ?_
    rintro e wa ⟨rfl, rfl⟩
    rw [← HX0.out]
    refine hK.out _ _ (Below.refl _ _) ?_
    clear hK K
    try simp only [Act.put, pA_, pB_, pC_]
    refine gU_ 6 rfl ⟨_, by intro W hW; go_simp <;> with_reducible rfl, ?_⟩
    try simp only [Act.put, pA_, pB_, pC_]
    refine wpG_done (by kernel_rfl) ?_
    have T4 : Hid (BlkAt g2 50 (ssV (.slice a1 l1 c1) n1 (.slice a2 l2 c2) n2 bo se (.slice a3 l3 c3)) w3.drew) := T3.out.drew
    have Z4 : Hid (BlkAt g3 50 zss w3.drew) := Z3.out.drew
    have HB4 : Hid (Below w.heap.size w w3.drew) := HB3.out.drew
    go_wp2_with (first | refine wpList_load_part rfl 50 _ rfl rfl [] (ssV (.slice a1 l1 c1) n1 (.slice a2 l2 c2) n2 bo se (.slice a3 l3 c3)) [] T4.out (by simp) rfl Tryd.underlying50 rfl info_s22 ?_ | (refine wpList_store_part rfl 50 _ _ rfl rfl (ssV (.slice a1 l1 c1) n1 (.slice a2 l2 c2) n2 bo se (.slice a3 l3 c3)) rfl [] zss [] (ssV (.slice a1 l1 c1) n1 (.slice a2 l2 c2) n2 bo se (.slice a3 l3 c3)) Z4.out (by simp) (by simp) rfl rfl info_s22 (one_s22 _ _ _ _ _ _ _ _ _ _ _ _ _) ?_; intro wz wzr wzw))
    have wzr2 : BlkAt g3 50 (ssV (.slice a1 l1 c1) n1 (.slice a2 l2 c2) n2 bo se (.slice a3 l3 c3)) wz := by simpa using wzr
    refine bodyPost_blk3 rfl rfl rfl rfl rfl wzr2 Tryd.underlying50 rfl info_s22 ?_
    have hbz := wzw.below _ _ (by have := HGe.out; omega : w.heap.size ≤ g3) HB4.out
    refine ⟨.slice a3 (nU cm).length c3, _, ?_, .inl rfl, HCm.out.kept hbz, Rd.nil _, hbz⟩
    rw [HCl.out]
    rw [← HL3.out]
    rfl
  have dI : decide ((y0 : Int) ≤ (x0 : Int)) = false := decide_eq_false (by omega)
  have dN : decide (y0 ≤ x0) = false := decide_eq_false hx
  replace HG : Hid (G = if ck ≠ 0 then (⟨⟨k1, n1⟩, ⟨k2, n2⟩, bo, se, cm⟩, [], ck) else if qe ≠ 0 then (⟨⟨k1, n1⟩, ⟨k2, n2⟩, bo, se, cm⟩, [], qe) else (⟨⟨k1, n1⟩, ⟨k2, n2⟩, bo, se, (mkL cm n).1⟩, qt, 0)) := by show _ = _; rw [HG.out, if_neg hx]
  go_wp2_with fail
  refine wpG_begin (by kernel_rfl) ?_
  refine gU_ 0 rfl ⟨_, by intro W hW; go_simp <;> with_reducible rfl, ?_⟩
  try simp only [Act.put, pA_, pB_, pC_]
  refine gU_ 1 rfl ⟨_, by intro W hW; have cW : W.cell? ⟨g2, 4, none⟩ = some (.int .u64 (bo : Int)) := (T3.out.drew.kept hW).cell 4; go_simp <;> with_reducible rfl, ?_⟩
  try simp only [Act.put, pA_, pB_, pC_]
  refine gU_ 2 rfl ⟨_, by intro W hW; go_simp <;> with_reducible rfl, ?_⟩
  try simp only [Act.put, pA_, pB_, pC_]
  refine gU_ 4 rfl ⟨_, by intro W hW; go_simp <;> with_reducible rfl, ?_⟩
  try simp only [Act.put, pA_, pB_, pC_]
  refine gU_ 5 rfl ⟨_, by intro W hW; have cW : W.cell? ⟨g1, 4, none⟩ = some (.int .u64 (y0 : Int)) := (by rw [HY0.out]; exact (R3.out.drew.kept hW).cell 4); go_simp <;> with_reducible rfl, ?_⟩
  try simp only [Act.put, pA_, pB_, pC_]
  refine gD_ 3 fun K hK => ?_
  go_simp
  refine (since22_any bo now HBo.out HN.out _).mono ?_
  rintro e wa ⟨rfl, rfl⟩
  rw [← HX0.out]
  refine hK.out _ _ (Below.refl _ _) ?_
  clear hK K
  try simp only [Act.put, pA_, pB_, pC_]
  refine gU_ 6 rfl ⟨_, by intro W hW; go_simp <;> with_reducible rfl, ?_⟩
  try simp only [Act.put, pA_, pB_, pC_]
  refine wpG_done (by kernel_rfl) ?_
  have T4 : Hid (BlkAt g2 50 (ssV (.slice a1 l1 c1) n1 (.slice a2 l2 c2) n2 bo se (.slice a3 l3 c3)) w3.drew) := T3.out.drew
  have Z4 : Hid (BlkAt g3 50 zss w3.drew) := Z3.out.drew
  have HB4 : Hid (Below w.heap.size w w3.drew) := HB3.out.drew
  have c4 : w3.drew.cell? ⟨g2, 6, none⟩ = some (.slice a3 l3 c3) := T4.out.cell 6
  have c2' : w3.drew.cell? ⟨g2, 2, none⟩ = some (.slice a2 l2 c2) := T4.out.cell 2
  clear R3 T3 Z3 HB3 dI dN hx
  generalize w3.drew = w4 at T4 Z4 HB4 c4 c2' ⊢
  go_wp2_with fail
  refine (HCk.out _ HB4.out).mono ?_
  rintro e w5 ⟨rfl, rfl⟩
  by_cases hk : ck = 0
  rotate_left
  · have d : (ck != 0) = true := by simpa using hk
    have hG : G = (⟨⟨k1, n1⟩, ⟨k2, n2⟩, bo, se, cm⟩, [], ck) := by rw [HG.out, if_pos hk]
    subst hG
    clear HG hk
    go_wp2_with (first | refine wpList_load_part rfl 50 _ rfl rfl [] (ssV (.slice a1 l1 c1) n1 (.slice a2 l2 c2) n2 bo se (.slice a3 l3 c3)) [] T4.out (by simp) rfl Tryd.underlying50 rfl info_s22 ?_ | (refine wpList_store_part rfl 50 _ _ rfl rfl (ssV (.slice a1 l1 c1) n1 (.slice a2 l2 c2) n2 bo se (.slice a3 l3 c3)) rfl [] zss [] (ssV (.slice a1 l1 c1) n1 (.slice a2 l2 c2) n2 bo se (.slice a3 l3 c3)) Z4.out (by simp) (by simp) rfl rfl info_s22 (one_s22 _ _ _ _ _ _ _ _ _ _ _ _ _) ?_; intro wz wzr wzw))
    have wzr2 : BlkAt g3 50 (ssV (.slice a1 l1 c1) n1 (.slice a2 l2 c2) n2 bo se (.slice a3 l3 c3)) wz := by simpa using wzr
    refine bodyPost_blk3 rfl rfl rfl rfl rfl wzr2 Tryd.underlying50 rfl info_s22 ?_
    have hbz := wzw.below _ _ (by have := HGe.out; omega : w.heap.size ≤ g3) HB4.out
    refine ⟨.slice a3 (nU cm).length c3, _, ?_, .inl rfl, HCm.out.kept hbz, Rd.nil _, hbz⟩
    rw [HCl.out]
    rw [← HL3.out]
    rfl
  subst hk
  replace HG : Hid (G = if qe ≠ 0 then (⟨⟨k1, n1⟩, ⟨k2, n2⟩, bo, se, cm⟩, [], qe) else (⟨⟨k1, n1⟩, ⟨k2, n2⟩, bo, se, (mkL cm n).1⟩, qt, 0)) := HG.out
  go_wp2_with (refine wpList_buildB rfl 48 _ rfl #[(0, .slice a2 l2 c2), (1, .int .u64 (n : Int))] (by go_simp; done) _ (build_c22 _ _ _ _ _) ?_)
  refine (HOp.out _ HB4.out).mono ?_
  rintro e w6 ⟨x, rfl, hX6, b6⟩
  obtain ⟨ax, cx, rfl, -⟩ := id hX6
  obtain ⟨lx, hlx⟩ : ∃ l, l = qt.length := ⟨_, rfl⟩
  rw [← hlx] at hX6 ⊢
  have HX6 : Hid (Rd w6 (.slice ax lx cx) qt) := hX6
  have T6 : Hid (BlkAt g2 50 (ssV (.slice a1 l1 c1) n1 (.slice a2 l2 c2) n2 bo se (.slice a3 l3 c3)) w6) := T4.out.kept b6
  have Z6 : Hid (BlkAt g3 50 zss w6) := Z4.out.kept b6
  have HB6 : Hid (Below w.heap.size w w6) := stepB HB4.out b6
  clear b6 hX6 T4 Z4 HB4 HOp c4 c2' hlx
  go_wp2_with (refine wpList_alloc_blk rfl 48 rfl (ciC (.slice none 0 0) 0) (alloc_ci _) ?_)
  intro w7 r7 b7 s7
  obtain ⟨g4, hg4⟩ : ∃ n : Nat, n = w6.heap.size := ⟨_, rfl⟩
  rw [← hg4] at r7 ⊢
  have HG4 : Hid (w6.heap.size ≤ g4) := (by omega : w6.heap.size ≤ g4)
  clear hg4 s7
  go_wp2_with (refine wpList_store_part rfl 48 _ _ rfl rfl (ciC (.slice a2 l2 c2) qn) rfl [] (ciC (.slice none 0 0) 0) [] (ciC (.slice a2 l2 c2) qn) r7 (by simp) (by simp) rfl rfl info_c22 (ciC_all _ _ _ _) ?_)
  intro w8 r8 hw8
  have hb8 := hw8.below _ _ HG4.out b7
  have T8 : Hid (BlkAt g2 50 (ssV (.slice a1 l1 c1) n1 (.slice a2 l2 c2) n2 bo se (.slice a3 l3 c3)) w8) := T6.out.kept hb8
  have Z8 : Hid (BlkAt g3 50 zss w8) := Z6.out.kept hb8
  have HX8 : Hid (Rd w8 (.slice ax lx cx) qt) := HX6.out.kept hb8
  have HB8 : Hid (Below w.heap.size w w8) := stepB HB6.out hb8
  have HL8 : Hid (w.heap.size ≤ w8.heap.size) := HB8.out.size
  clear r7 r8 b7 hw8 hb8 T6 Z6 HX6 HB6 HG4
  by_cases hq : qe = 0
  rotate_left
  · have d : (qe != 0) = true := by simpa using hq
    have hG : G = (⟨⟨k1, n1⟩, ⟨k2, n2⟩, bo, se, cm⟩, [], qe) := by rw [HG.out, if_pos hq]
    subst hG
    clear HG hq
    go_wp2_with (first | refine wpList_load_part rfl 50 _ rfl rfl [] (ssV (.slice a1 l1 c1) n1 (.slice a2 l2 c2) n2 bo se (.slice a3 l3 c3)) [] T8.out (by simp) rfl Tryd.underlying50 rfl info_s22 ?_ | (refine wpList_store_part rfl 50 _ _ rfl rfl (ssV (.slice a1 l1 c1) n1 (.slice a2 l2 c2) n2 bo se (.slice a3 l3 c3)) rfl [] zss [] (ssV (.slice a1 l1 c1) n1 (.slice a2 l2 c2) n2 bo se (.slice a3 l3 c3)) Z8.out (by simp) (by simp) rfl rfl info_s22 (one_s22 _ _ _ _ _ _ _ _ _ _ _ _ _) ?_; intro wz wzr wzw))
    have wzr2 : BlkAt g3 50 (ssV (.slice a1 l1 c1) n1 (.slice a2 l2 c2) n2 bo se (.slice a3 l3 c3)) wz := by simpa using wzr
    refine bodyPost_blk3 rfl rfl rfl rfl rfl wzr2 Tryd.underlying50 rfl info_s22 ?_
    have hbz := wzw.below _ _ (by have := HGe.out; omega : w.heap.size ≤ g3) HB8.out
    refine ⟨.slice a3 (nU cm).length c3, _, ?_, .inl rfl, HCm.out.kept hbz, Rd.nil _, hbz⟩
    rw [HCl.out]
    rw [← HL3.out]
    rfl
  have d : (qe != 0) = false := by rw [hq]; rfl
  have hG : G = (⟨⟨k1, n1⟩, ⟨k2, n2⟩, bo, se, cm ++ [n]⟩, qt, 0) := by rw [HG.out, if_neg (fun h => h hq), HMl.out (by trivial)]
  subst hG
  clear HG hq
  have c6 : w8.cell? ⟨g2, 6, none⟩ = some (.slice a3 l3 c3) := T8.out.cell 6
  go_wp2_with fail
  refine (HMk.out (by trivial) _ HB8.out).mono ?_
  rintro e w9 ⟨v4, rfl, hN9⟩
  obtain ⟨a4, c4, rfl, -⟩ := id hN9.rd
  obtain ⟨l4, hl4⟩ : ∃ l, l = (nU (cm ++ [n])).length := ⟨_, rfl⟩
  rw [← hl4] at hN9 ⊢
  have HN9 : Hid (NewI .u64 22 w8 (.slice a4 l4 c4) (nU (cm ++ [n])) w9) := hN9
  have T9 : Hid (BlkAt g2 50 (ssV (.slice a1 l1 c1) n1 (.slice a2 l2 c2) n2 bo se (.slice a3 l3 c3)) w9) := T8.out.kept hN9.2
  have Z9 : Hid (BlkAt g3 50 zss w9) := Z8.out.kept hN9.2
  have HX9 : Hid (Rd w9 (.slice ax lx cx) qt) := HX8.out.kept hN9.2
  have HB9 : Hid (Below w.heap.size w w9) := stepB HB8.out hN9.2
  clear hN9 T8 Z8 HX8 HB8 c6 hl4
  go_wp2_with (refine st22_sl rfl _ _ rfl rfl _ _ _ rfl T9.out rfl ?_)
  intro wa ra hwa
  have Za : Hid (BlkAt g3 50 zss wa) := Z9.out.wrote hwa (by have := HGe.out; omega)
  have Ta : Hid (BlkAt g2 50 (ssV (.slice a1 l1 c1) n1 (.slice a2 l2 c2) n2 bo se (.slice a4 l4 c4)) wa) := ra
  have HXa : Hid (Rd wa (.slice ax lx cx) qt) := HX9.out.past16 T9.out (ssV_no8 _ _ _ _ _ _ _ _ _ _ _ _ _) (Chg.of_wrote hwa)
  have HOa : Hid (wa.ownsRow w8.heap.size 22 1 (.slice a4 l4 c4) (nU (cm ++ [n])).length ((nU (cm ++ [n])).map (Value.int .u64))) := own_chg HN9.out.1 (Chg.of_wrote hwa) fun k hk e => own_ne22 HN9.out.1 T9.out (by decide) k hk e
  have HBa : Hid (Below w.heap.size w wa) := hwa.below _ _ HGe.out.2.2 HB9.out
  clear ra hwa T9 Z9 HX9 HB9 HN9
  go_wp2_with (first | refine wpList_load_part rfl 50 _ rfl rfl [] (ssV (.slice a1 l1 c1) n1 (.slice a2 l2 c2) n2 bo se (.slice a4 l4 c4)) [] Ta.out (by simp) rfl Tryd.underlying50 rfl info_s22 ?_ | (refine wpList_store_part rfl 50 _ _ rfl rfl (ssV (.slice a1 l1 c1) n1 (.slice a2 l2 c2) n2 bo se (.slice a4 l4 c4)) rfl [] zss [] (ssV (.slice a1 l1 c1) n1 (.slice a2 l2 c2) n2 bo se (.slice a4 l4 c4)) Za.out (by simp) (by simp) rfl rfl info_s22 (one_s22 _ _ _ _ _ _ _ _ _ _ _ _ _) ?_; intro wz wzr wzw))
  have wzr2 : BlkAt g3 50 (ssV (.slice a1 l1 c1) n1 (.slice a2 l2 c2) n2 bo se (.slice a4 l4 c4)) wz := by simpa using wzr
  refine bodyPost_blk3 rfl rfl rfl rfl rfl wzr2 Tryd.underlying50 rfl info_s22 ?_
  have hbz := wzw.below _ _ (by have := HGe.out; omega : w.heap.size ≤ g3) HBa.out
  have hXz : Rd wz (.slice ax lx cx) qt := HXa.out.past16 Za.out zss_no8 (Chg.of_wrote wzw)
  have hOz := own_chg HOa.out (Chg.of_wrote wzw) fun k hk e => own_ne22 HOa.out Za.out (by decide) k hk e
  refine ⟨.slice a4 l4 c4, _, ?_, .inr fun k hk => ⟨Nat.le_trans HL8.out ((World.ownsRow.lt hOz k hk).1), (World.ownsRow.lt hOz k hk).2⟩, RdI.of_row hOz, hXz, hbz⟩
  rw [HCl.out]
  rfl
end Go.Proofs.YtliiofjcghdjoaaDoor
