/- What the law KeccakMany answers at every state and all numbers: the walk. -/
import Derived.Test.YtiffdfpkfcielabDoorK02f
import Derived.Test.YtiffdfpkfcielabDoorRef02s
import Derived.Test.YtiffdfpkfcielabDoorArr3
import Derived.Test.YtiffdfpkfcielabDoorReg
import Derived.Test.YtiffdfpkfcielabDoorRef02e
namespace Go.Proofs.YtiffdfpkfcielabDoor
open Go.ChangeShapes Go.WideShapes Go.ChangeAt Go.RowKit
set_option linter.unusedSimpArgs false
set_option linter.unusedVariables false

theorem rdI_congr {f g : Nat → Nat} (h : ∀ i, i < 25 → f i = g i) (r : Int) (k : Nat) (hk : k < 25) : rdI f r k = rdI g r k := by
  unfold rdI
  by_cases hr : 0 ≤ r ∧ r ≤ 23
  · rw [if_pos hr, if_pos hr]
    exact rdF_congr h _ k hk
  · rw [if_neg hr, if_neg hr]
    exact h k hk
/-- So many rounds, from one on: the document's, and the program's. -/
def mF (f : Nat → Nat) (F : Int) : Nat → Nat → Nat
  | 0 => f
  | j + 1 => rdI (mF f F j) (F + j)
def mL (f : Nat → Nat) (F : Int) : Nat → Nat → Nat
  | 0 => f
  | j + 1 => rdLI (mL f F j) (F + j)
theorem mF_lt (f : Nat → Nat) (hf : ∀ i, f i < 18446744073709551616) (F : Int) : ∀ j k, mF f F j k < 18446744073709551616
  | 0, k => hf k
  | j + 1, k => rdI_lt _ (mF_lt f hf F j) _ k
theorem mL_lt (f : Nat → Nat) (hf : ∀ i, f i < 18446744073709551616) (F : Int) : ∀ j k, mL f F j k < 18446744073709551616
  | 0, k => hf k
  | j + 1, k => rdLI_lt _ (mL_lt f hf F j) _ k
theorem mL_eq (f : Nat → Nat) (hf : ∀ i, f i < 18446744073709551616) (F : Int) : ∀ j k, k < 25 → mL f F j k = mF f F j k
  | 0, _, _ => rfl
  | j + 1, k, hk => (rdLI_eq _ (mL_lt f hf F j) (F + j) k hk).trans (rdI_congr (mL_eq f hf F j) (F + j) k hk)
theorem and7 (n : Int) : bits .and .i64 n 7 = n % 8 := by
  have h7 : (BitVec.ofInt 64 7).toNat = 2 ^ 3 - 1 := by decide
  have key : (BitVec.ofInt 64 n &&& BitVec.ofInt 64 7).toNat = (n % ((2 ^ 64 : Nat) : Int)).toNat % 2 ^ 3 := by
    rw [BitVec.toNat_and, BitVec.toNat_ofInt, h7, Nat.and_two_pow_sub_one_eq_mod]
  show IntKind.i64.wrap ((BitVec.ofInt 64 n &&& BitVec.ofInt 64 7).toNat : Nat) = n % 8
  rw [key, IntKind.wrap_i64]
  omega
theorem and31 (n : Int) : bits .and .i64 n 31 = n % 32 := by
  have h31 : (BitVec.ofInt 64 31).toNat = 2 ^ 5 - 1 := by decide
  have key : (BitVec.ofInt 64 n &&& BitVec.ofInt 64 31).toNat = (n % ((2 ^ 64 : Nat) : Int)).toNat % 2 ^ 5 := by
    rw [BitVec.toNat_and, BitVec.toNat_ofInt, h31, Nat.and_two_pow_sub_one_eq_mod]
  show IntKind.i64.wrap ((BitVec.ofInt 64 n &&& BitVec.ofInt 64 31).toNat : Nat) = n % 32
  rw [key, IntKind.wrap_i64]
  omega

set_option maxRecDepth 100000 in
set_option maxHeartbeats 4000000 in
theorem keccakMany_walk (f : Nat → Nat) (hf : ∀ i, f i < 18446744073709551616) (from_ many : Int) (w : World) (ht : Tabs w) :
    Calls Tryd.prog 5 #[.agg ((stL f).map (Value.int .u64)).toArray, .int .i64 from_, .int .i64 many] w fun e w' => e = .returned (.bool true) ∧ Below w.heap.size w w' := by
  have HF : Hid (∀ i, f i < 18446744073709551616) := hf
  obtain ⟨M, hM, hM7⟩ : ∃ M : Nat, bits .and .i64 many 7 = (M : Int) ∧ M ≤ 7 := ⟨(many % 8).toNat, by rw [and7]; omega, by omega⟩
  obtain ⟨F, hF, hF31⟩ : ∃ F : Nat, bits .and .i64 from_ 31 = (F : Int) ∧ F ≤ 31 := ⟨(from_ % 32).toNat, by rw [and31]; omega, by omega⟩
  have HQ : Hid (decide (stL (mL f F M) = stL (mF f F M)) = true) := decide_eq_true (stL_congr fun k hk => mL_eq f hf F M k hk)
  clear hf
  go_enter Tryd.func5, Tryd.ntmps5
  go_wp2_with fail
  have r0 : RowAt .u64 23 w.heap.size 25 (stL f) (w.alloc (.cells ((stL f).map (Value.int .u64)).toArray 23)) := RowAt.fresh (stL f) rfl rfl (stL_length f).symm (stL_ne f) max25
  have hb0 : Below w.heap.size w (w.alloc (.cells ((stL f).map (Value.int .u64)).toArray 23)) := growB _
  have t0 := ht.kept hb0
  generalize w.alloc (.cells ((stL f).map (Value.int .u64)).toArray 23) = W at r0 hb0 t0
  refine (awake_any _ t0).mono ?_
  rintro e w1 ⟨rfl, hB⟩
  have r1 := r0.kept hB
  have t1 := t0.kept hB
  have hb1 := stepB hb0 hB
  have hrd1 := r1.rd
  rw [stL_length] at hrd1
  clear r0 hb0 t0 hB ht
  go_wp2
  go_loopw [8, 9] (fun v i wr => ∃ j : Nat, j ≤ M ∧ i = .int .i64 j ∧ RdI .u64 wr v (stL (mF f F j)) ∧ RowAt .u64 23 w.heap.size 25 (stL f) wr ∧ Tabs wr ∧ Below w.heap.size w wr) (fun _ i _ => M - (intOf i).toNat)
  case atStart => exact ⟨0, by omega, rfl, hrd1, r1, t1, hb1⟩
  case round =>
    obtain ⟨j, hj, rfl, hR, r2, t2, hb2⟩ := hrel
    clear hrd1 r1 t1 hb1
    by_cases hlt : j < M
    · have hd : decide ((j : Int) < (M : Int)) = true := decide_eq_true (by omega)
      have hw : IntKind.i64.wrap ((F : Int) + (j : Int)) = (F : Int) + (j : Int) := IntWalk.i64_in _ (by omega)
      have hjM : (j : Int) < M := by omega
      go_wp2_with fail
      refine (round_any _ (mF f F j) (mF_lt f HF.out F j) _ _ hR).mono ?_
      rintro e w3 ⟨v3, rfl, hR3, hB3⟩
      have r3 := r2.kept hB3
      have t3 := t2.kept hB3
      have hb3 := stepB hb2 hB3
      clear hR r2 t2 hb2 hB3
      go_wp2
      go_roundw
      case rel => exact ⟨j + 1, by omega, by go_num, hR3, r3, t3, hb3⟩
      case measure => simp [intOf]; omega
    · have hje : j = M := by omega
      rw [hje] at hR
      have hd : decide ((j : Int) < (M : Int)) = false := decide_eq_false (by omega)
      have hjM : (M : Int) ≤ j := by omega
      clear hje hlt hj
      go_wp2_with (first | refine wpList_load_row rfl 23 _ rfl rfl r2 _ Tryd.underlying23 rfl (arrInfo _) ?_ | (refine wpList_store_row rfl 23 _ _ rfl (stL f) rfl rfl (RowAt.fresh (e := 23) (w := wr) _ zeros25 rfl (stL_length _).symm (stL_ne _) max25) (by simp [stL_length]) (arrInfo _) ?_; intro w3 r3 hw; have hB3 := hw.below _ _ (Nat.le_refl _) (growB (w := wr) (.cells #[Value.int .u64 0, .int .u64 0, .int .u64 0, .int .u64 0, .int .u64 0, .int .u64 0, .int .u64 0, .int .u64 0, .int .u64 0, .int .u64 0, .int .u64 0, .int .u64 0, .int .u64 0, .int .u64 0, .int .u64 0, .int .u64 0, .int .u64 0, .int .u64 0, .int .u64 0, .int .u64 0, .int .u64 0, .int .u64 0, .int .u64 0, .int .u64 0, .int .u64 0] 23)); clear hw r2))
      go_loopw [11] (fun i wr2 => ∃ j : Nat, j ≤ M ∧ i = .int .i64 j ∧ RowAt .u64 23 wr.heap.size 25 (stL (mL f F j)) wr2 ∧ Below wr.heap.size wr wr2) (fun i _ => M - (intOf i).toNat)
      case atStart => exact ⟨0, by omega, rfl, r3, hB3⟩
      case round =>
        obtain ⟨n, hn, rfl, r4, hB4⟩ := hrel
        clear r3 hB3
        by_cases hnlt : n < M
        · have hd2 : decide ((n : Int) < (M : Int)) = true := decide_eq_true (by omega)
          have hw2 : IntKind.i64.wrap ((F : Int) + (n : Int)) = (F : Int) + (n : Int) := IntWalk.i64_in _ (by omega)
          have hnM : (n : Int) < M := by omega
          go_wp2_with (refine wpList_load_row rfl 23 _ rfl rfl r4 _ Tryd.underlying23 rfl (arrInfo _) ?_)
          refine (kRound_any _ (mL f F n) (mL_lt f HF.out F n) rfl _ _ (t2.kept hB4)).mono ?_
          rintro e w5 ⟨rfl, hB5⟩
          have r5 := r4.kept hB5
          have hB6 := stepB hB4 hB5
          clear r4 hB4 hB5
          go_wp2_with (refine wpList_store_row rfl 23 _ _ rfl (stL (mL f F (n + 1))) rfl rfl r5 (by simp [stL_length]) (arrInfo _) ?_; intro w7 r7 hw; have hB7 := hw.below _ _ (Nat.le_refl _) hB6; clear hw r5 hB6)
          go_roundw
          case rel => exact ⟨n + 1, by omega, by go_num, r7, hB7⟩
          case measure => simp [intOf]; omega
        · have hne : n = M := by omega
          rw [hne] at r4
          have hd2 : decide ((n : Int) < (M : Int)) = false := decide_eq_false (by omega)
          have hnM : (M : Int) ≤ n := by omega
          clear hne hnlt hn
          go_wp2_with (refine wpList_load_row rfl 23 _ rfl rfl r4 _ Tryd.underlying23 rfl (arrInfo _) ?_)
          refine (same_any _ (mL f F M) _ rfl _ _ (hR.kept hB4)).mono ?_
          rintro e w5 ⟨rfl, hB5⟩
          rw [HQ.out]
          have hb5 := stepB (stepB hb2 hB4) hB5
          go_wp2
          go_ret
          exact ⟨rfl, hb5⟩
end Go.Proofs.YtiffdfpkfcielabDoor
