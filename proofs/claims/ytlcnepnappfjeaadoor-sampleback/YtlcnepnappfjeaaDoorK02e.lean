/- What a round and all rounds answer: contracts of package keccak, fifth part. -/
import Derived.Test.YtlcnepnappfjeaaDoorK02c
import Derived.Test.YtlcnepnappfjeaaDoorK02d
import Derived.Test.YtlcnepnappfjeaaDoorBase
namespace Go.Proofs.YtlcnepnappfjeaaDoor
open Go.ChangeShapes Go.WideShapes Go.ChangeAt Go.RowKit
set_option linter.unusedSimpArgs false
set_option linter.unusedVariables false

/-- A round, of any number. -/
def rdLI (f : Nat → Nat) (r : Int) : Nat → Nat := if 0 ≤ r ∧ r ≤ 23 then rdL f r.toNat else f

set_option maxHeartbeats 1000000 in
theorem kRound_out (A : Array Value) (f : Nat → Nat) (hA : A = ((stL f).map (Value.int .u64)).toArray) (r : Int) (hr : decide (0 ≤ r ∧ r ≤ 23) = false) (w : World) (ht : Tabs w) :
    Calls Tryd.prog 67 #[.agg A, .int .i64 r] w fun e w' => e = .returned (arrV f) ∧ Below w.heap.size w w' := by
  have HA : Hid _ := hA
  clear hA
  go_enter Tryd.func67, Tryd.ntmps67
  go_wp2_with fail
  rw [HA.out]
  obtain ⟨W, hW, hI, hs⟩ := two_rows f w _ zeros25 ht
  rw [hW]
  clear hW ht
  refine (isRound_any _ _).mono ?_
  rintro e w1 ⟨rfl, rfl⟩
  rw [hr]
  have r1 := hI.a
  have r2 := hI.r
  go_wp2_with (first | refine wpList_load_row rfl 66 _ rfl rfl r1 _ Tryd.underlying66 rfl (arrInfo _) ?_ | (refine wpList_store_row rfl 66 _ _ rfl (stL f) rfl rfl r2 (by simp [stL_length]) (arrInfo _) ?_; intro w2 r3 hw))
  refine bodyPost_row (p := 4) (ty := 66) rfl rfl rfl r3 Tryd.underlying66 rfl (arrInfo _) ?_
  exact ⟨rfl, hw.below _ _ (by omega) hI.b⟩

theorem rdL_congr {f g : Nat → Nat} (hf : ∀ i, f i < 18446744073709551616) (hg : ∀ i, g i < 18446744073709551616) (h : ∀ i, i < 25 → f i = g i) (n : Nat) (hn : n < 24) (k : Nat) (hk : k < 25) : rdL f n k = rdL g n k := by
  rw [rdL_eq f hf n hn k hk, rdL_eq g hg n hn k hk]
  exact rdF_congr h n k hk
theorem cells64 : Tryd.prog.cellsOf 65 = 1 := by kernel_rfl
/-- Two states, compared by the program. -/
theorem eq_states (f g : Nat → Nat) (A B : Array Value) (hA : A = ((stL f).map (Value.int .u64)).toArray) (hB : B = ((stL g).map (Value.int .u64)).toArray) (w : World) :
    (Op.equalIn 10000 66 (.agg A) (.agg B)).run Tryd.prog w = .ok (decide (stL f = stL g)) w := by
  subst hA hB
  exact run_equal_row w 9998 Tryd.underlying66 Tryd.underlying65 cells64 _ _ (stL_length f) (stL_length g)

set_option maxHeartbeats 1000000 in
theorem kRound_in (A : Array Value) (f : Nat → Nat) (hf : ∀ i, f i < 18446744073709551616) (hA : A = ((stL f).map (Value.int .u64)).toArray) (n : Nat) (hlt : n < 24) (w : World) (ht : Tabs w) :
    Calls Tryd.prog 67 #[.agg A, .int .i64 (n : Int)] w fun e w' => e = .returned (arrV (rdL f n)) ∧ Below w.heap.size w w' := by
  have hr : decide (0 ≤ (n : Int) ∧ (n : Int) ≤ 23) = true := decide_eq_true (by omega)
  have HA : Hid _ := hA
  have HF : Hid (∀ i, f i < 18446744073709551616) := hf
  clear hA hf
  have hio : ∀ g : Nat → Nat, ioI g (n : Int) = ioK g n := fun g => by unfold ioI; rw [if_pos (by omega), Int.toNat_natCast]
  have HIO : Hid _ := hio
  clear hio
  go_enter Tryd.func67, Tryd.ntmps67
  go_wp2_with fail
  rw [HA.out]
  obtain ⟨W, hW, hI, hs⟩ := two_rows f w _ zeros25 ht
  rw [hW]
  clear hW ht
  refine (isRound_any _ _).mono ?_
  rintro e w1 ⟨rfl, rfl⟩
  rw [hr]
  clear hr
  have r1 := hI.a
  have hq := eq_states f (fun _ => 0) _ _ rfl zeros25 w1
  by_cases hz : stL f = stL (fun _ => 0)
  · rw [decide_eq_true hz] at hq
    have HZ : Hid _ := hz
    clear hz
    go_wp2_with (refine wpList_load_row rfl 66 _ rfl rfl r1 _ Tryd.underlying66 rfl (arrInfo _) ?_)
    refine (kIota_any _ (fun _ => 0) (fun _ => by decide) (by rw [HZ.out]) _ _ hI.t).mono ?_
    rintro e w2 ⟨rfl, hB⟩
    rw [HIO.out]
    have hI2 := hI.kept hB
    have r2 := hI2.r
    clear hq r1 hI hs hB
    go_wp2_with ((refine wpList_store_row rfl 66 _ _ rfl (stL (ioK (fun _ => 0) n)) rfl rfl r2 (by simp [stL_length]) (arrInfo _) ?_; intro w3 r3 hw))
    refine bodyPost_row (p := 4) (ty := 66) rfl rfl rfl r3 Tryd.underlying66 rfl (arrInfo _) ?_
    refine ⟨?_, hw.below _ _ (by omega) hI2.b⟩
    have e : stL (ioK (fun _ => 0) n) = stL (rdL f n) := by
      rw [← rdL_noughts]
      exact stL_congr fun k hk => rdL_congr (fun _ => by decide) HF.out (fun i hi => (stL_inj HZ.out i hi).symm) n hlt k hk
    show Ending.returned (.agg ((stL (ioK (fun _ => 0) n)).map (Value.int .u64)).toArray) = _
    rw [e]
  · rw [decide_eq_false hz] at hq
    clear hz
    go_wp2_with (refine wpList_load_row rfl 66 _ rfl rfl r1 _ Tryd.underlying66 rfl (arrInfo _) ?_)
    refine (kTheta_any _ f HF.out rfl _ hI.t).mono ?_
    rintro e w2 ⟨rfl, hB⟩
    have hI2 := hI.kept hB
    clear hq r1 hI hs hB
    go_wp2_with fail
    refine (kRho_any _ (thL f) (thL_lt f HF.out) rfl _ hI2.t).mono ?_
    rintro e w3 ⟨rfl, hB⟩
    have hI3 := hI2.kept hB
    clear hI2 hB
    go_wp2_with fail
    refine (kPi_any _ (rhL (thL f)) (rhL_lt _ (thL_lt f HF.out)) rfl _ hI3.t).mono ?_
    rintro e w4 ⟨rfl, hB⟩
    have hI4 := hI3.kept hB
    clear hI3 hB
    go_wp2_with fail
    refine (kChi_any _ (piF (rhL (thL f))) (piF_lt _ (rhL_lt _ (thL_lt f HF.out))) rfl _ hI4.t).mono ?_
    rintro e w5 ⟨rfl, hB⟩
    have hI5 := hI4.kept hB
    clear hI4 hB
    go_wp2_with fail
    refine (kIota_any _ (chL (piF (rhL (thL f)))) (chL_lt _ (piF_lt _ (rhL_lt _ (thL_lt f HF.out)))) rfl _ _ hI5.t).mono ?_
    rintro e w6 ⟨rfl, hB⟩
    rw [HIO.out]
    have hI6 := hI5.kept hB
    have r2 := hI6.r
    clear hI5 hB
    go_wp2_with ((refine wpList_store_row rfl 66 _ _ rfl (stL (rdL f n)) rfl rfl r2 (by simp [stL_length]) (arrInfo _) ?_; intro w7 r3 hw))
    refine bodyPost_row (p := 4) (ty := 66) rfl rfl rfl r3 Tryd.underlying66 rfl (arrInfo _) ?_
    exact ⟨rfl, hw.below _ _ (by omega) hI6.b⟩
theorem kRound_any (A : Array Value) (f : Nat → Nat) (hf : ∀ i, f i < 18446744073709551616) (hA : A = ((stL f).map (Value.int .u64)).toArray) (r : Int) (w : World) (ht : Tabs w) :
    Calls Tryd.prog 67 #[.agg A, .int .i64 r] w fun e w' => e = .returned (arrV (rdLI f r)) ∧ Below w.heap.size w w' := by
  by_cases h : 0 ≤ r ∧ r ≤ 23
  · obtain ⟨n, rfl⟩ : ∃ n : Nat, r = n := ⟨r.toNat, by omega⟩
    have e : rdLI f (n : Int) = rdL f n := by unfold rdLI; rw [if_pos h, Int.toNat_natCast]
    rw [e]
    exact kRound_in A f hf hA n (by omega) w ht
  · have e : rdLI f r = f := by unfold rdLI; rw [if_neg h]
    rw [e]
    exact kRound_out A f hA r (decide_eq_false h) w ht
theorem rdLI_lt (f : Nat → Nat) (hf : ∀ i, f i < 18446744073709551616) (r : Int) (k : Nat) : rdLI f r k < 18446744073709551616 := by
  unfold rdLI
  split
  · exact rdL_lt f hf _ (by omega) k
  · exact hf k
/-- The program's round is the document's. -/
theorem rdLI_eq (f : Nat → Nat) (hf : ∀ i, f i < 18446744073709551616) (r : Int) (k : Nat) (hk : k < 25) : rdLI f r k = (if 0 ≤ r ∧ r ≤ 23 then rdF f r.toNat else f) k := by
  unfold rdLI
  by_cases h : 0 ≤ r ∧ r ≤ 23
  · rw [if_pos h, if_pos h]
    exact rdL_eq f hf _ (by omega) k hk
  · rw [if_neg h, if_neg h]

set_option maxHeartbeats 1000000 in
theorem kF_any (A : Array Value) (f : Nat → Nat) (hf : ∀ i, f i < 18446744073709551616) (hA : A = ((stL f).map (Value.int .u64)).toArray) (w : World) (ht : Tabs w) :
    Calls Tryd.prog 62 #[.agg A] w fun e w' => e = .returned (arrV (rdsL f 24)) ∧ Below w.heap.size w w' := by
  have HA : Hid _ := hA
  have HF : Hid (∀ i, f i < 18446744073709551616) := hf
  clear hA hf
  go_enter Tryd.func62, Tryd.ntmps62
  go_wp2
  rw [HA.out]
  obtain ⟨W, hW, hI, hs⟩ := two_rows f w _ zeros25 ht
  rw [hW]
  clear hW ht
  go_loopw [4] (fun i wr => ∃ j : Nat, j ≤ 24 ∧ i = .int .i64 j ∧ KI w (rdsL f j) wr) (fun i _ => 24 - (intOf i).toNat)
  case atStart => exact ⟨0, by omega, rfl, hI⟩
  case round =>
    obtain ⟨j, hj, rfl, hI2⟩ := hrel
    clear hI hs
    by_cases hlt : j < 24
    · have hd : decide ((j : Int) < 24) = true := decide_eq_true (by omega)
      have hjI : (j : Int) < 24 := by omega
      have r1 := hI2.a
      go_wp2_with (refine wpList_load_row rfl 66 _ rfl rfl r1 _ Tryd.underlying66 rfl (arrInfo _) ?_)
      refine (kRound_in _ (rdsL f j) (rdsL_lt f HF.out j (by omega)) rfl j hlt _ hI2.t).mono ?_
      rintro e w2 ⟨rfl, hB⟩
      have hI3 := hI2.kept hB
      have r2 := hI3.a
      clear r1 hI2 hB
      go_wp2_with ((refine wpList_store_row rfl 66 _ _ rfl (stL (rdL (rdsL f j) j)) rfl rfl r2 (by simp [stL_length]) (arrInfo _) ?_; intro w3 r3 hw))
      have hI4 : KI w (rdsL f (j + 1)) w3 := hI3.whole r3 hw
      go_roundw
      case rel => exact ⟨j + 1, by omega, by go_num, hI4⟩
      case measure => simp [intOf]; omega
    · have hje : j = 24 := by omega
      subst hje
      have r1 := hI2.a
      have r2 := hI2.r
      go_wp2_with (first | refine wpList_load_row rfl 66 _ rfl rfl r1 _ Tryd.underlying66 rfl (arrInfo _) ?_ | (refine wpList_store_row rfl 66 _ _ rfl (stL (rdsL f 24)) rfl rfl r2 (by simp [stL_length]) (arrInfo _) ?_; intro w2 r3 hw))
      refine bodyPost_row (p := 2) (ty := 66) rfl rfl rfl r3 Tryd.underlying66 rfl (arrInfo _) ?_
      exact ⟨rfl, hw.below _ _ (by omega) hI2.b⟩
end Go.Proofs.YtlcnepnappfjeaaDoor
