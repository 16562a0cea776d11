/- How many bits of a state are 1, as the law counts them. -/
import Derived.Test.YtiffdfpkfcielabDoorK02f
namespace Go.Proofs.YtiffdfpkfcielabDoor
open Go.ChangeShapes Go.WideShapes Go.ChangeAt Go.RowKit
set_option linter.unusedSimpArgs false
set_option linter.unusedVariables false

set_option maxHeartbeats 1000000 in
theorem ones_any (A : Array Value) (f : Nat → Nat) (hf : ∀ i, f i < 18446744073709551616) (hA : A = ((stL f).map (Value.int .u64)).toArray) (w : World) :
    Calls Tryd.prog 17 #[.agg A] w fun e w' => e = .returned (.int .i64 ((pcs f 25 : Nat) : Int)) ∧ Below w.heap.size w w' := by
  have HA : Hid _ := hA
  have HF : Hid (∀ i, f i < 18446744073709551616) := hf
  clear hA hf
  go_enter Tryd.func17, Tryd.ntmps17
  go_wp2
  rw [HA.out]
  have r0 : RowAt .u64 23 w.heap.size 25 (stL f) (w.alloc (.cells ((stL f).map (Value.int .u64)).toArray 23)) := RowAt.fresh (stL f) rfl rfl (stL_length f).symm (stL_ne f) max25
  have hb0 : Below w.heap.size w (w.alloc (.cells ((stL f).map (Value.int .u64)).toArray 23)) := growB _
  generalize w.alloc (.cells ((stL f).map (Value.int .u64)).toArray 23) = W at r0 hb0
  go_loopw [3, 4] (fun n i wr => ∃ j : Nat, j ≤ 25 ∧ i = .int .i64 j ∧ n = .int .i64 ((pcs f j : Nat) : Int) ∧ wr = W) (fun _ i _ => 25 - (intOf i).toNat)
  case atStart => exact ⟨0, by omega, rfl, rfl, rfl⟩
  case round =>
    obtain ⟨j, hj, rfl, rfl, rfl⟩ := hrel
    by_cases hlt : j < 25
    · have hd : decide ((j : Int) < 25) = true := decide_eq_true (by omega)
      have hjI : (j : Int) < 25 := by omega
      have hc := r0.cell (j := j) (by rw [stL_length]; exact hlt)
      rw [stL_get _ j hlt] at hc
      have HS : Hid (pcs f j + pc (f j) = pcs f (j + 1)) := rfl
      have hq := HF.out j
      have HL := pcs_le f HF.out (j + 1)
      have HLe : Hid (pcs f (j + 1) ≤ 1600) := by show _ ≤ _; omega
      clear HL
      generalize f j = q at hc HS hq
      generalize pcs f j = s0 at HS
      go_wp2
      go_loopw [3, 5] (fun n x wr2 => ∃ X s : Nat, x = .int .u64 X ∧ n = .int .i64 s ∧ Hid (s + pc X = pcs f (j + 1)) ∧ X < 18446744073709551616 ∧ wr2 = wr) (fun _ x _ => (intOf x).toNat)
      case atStart => exact ⟨q, s0, rfl, rfl, HS, hq, rfl⟩
      case round =>
        obtain ⟨X, s, rfl, rfl, HX, hX, rfl⟩ := hrel
        have hs : s ≤ 1600 := by have := HX.out; have := HLe.out; omega
        by_cases hX0 : 0 < X
        · have hd2 : decide ((0 : Int) < (X : Int)) = true := decide_eq_true (by omega)
          have hXI : (0 : Int) < X := by omega
          obtain ⟨b, hb⟩ : ∃ b : Nat, b = X % 2 := ⟨_, rfl⟩
          obtain ⟨h, hh⟩ : ∃ h : Nat, h = X / 2 := ⟨_, rfl⟩
          have t1 : (X : Int).tmod 2 = (b : Int) := by rw [Int.tmod_eq_emod_of_nonneg (by omega)]; omega
          have t2 : (X : Int) % 2 = (b : Int) := by omega
          have t3 : (X : Int).tdiv 2 = (h : Int) := by rw [Int.tdiv_eq_ediv_of_nonneg (by omega)]; omega
          have t4 : (X : Int) / 2 = (h : Int) := by omega
          have w1 : IntKind.i64.wrap (b : Int) = (b : Int) := IntWalk.i64_in _ (by omega)
          have w2 : IntKind.i64.wrap ((s : Int) + (b : Int)) = (s : Int) + (b : Int) := IntWalk.i64_in _ (by omega)
          have HX2 : Hid (s + b + pc h = pcs f (j + 1)) := by
            have h1 := HX.out
            rw [pc_step X] at h1
            show s + b + pc h = _
            rw [hb, hh]
            omega
          have hh2 : h < 18446744073709551616 := by omega
          have hhX : h < X := by omega
          clear HX hb hh
          go_wp2
          go_roundw
          case rel => exact ⟨h, s + b, rfl, by go_num, HX2, hh2, by trivial⟩
          case measure => simp [intOf]; omega
        · have hXe : X = 0 := by omega
          have hd2 : decide ((0 : Int) < (X : Int)) = false := decide_eq_false (by omega)
          have hXI : (X : Int) ≤ 0 := by omega
          have hse : s = pcs f (j + 1) := by
            have h1 := HX.out
            rw [hXe, pc_zero] at h1
            exact h1
          clear hXe
          go_wp2
          go_roundw
          case rel => exact ⟨j + 1, by omega, by go_num, by rw [hse], by trivial⟩
          case measure => simp [intOf]; omega
    · have hje : j = 25 := by omega
      subst hje
      go_wp2
      go_ret
      exact ⟨rfl, hb0⟩
end Go.Proofs.YtiffdfpkfcielabDoor
