/- What the document's own steps on states answer, bit by bit: contracts of the reference of layer 2, second part: Pi, Chi, Rho. -/
import Derived.Test.YtiffdfpkfcielabDoorRef02a
import Derived.Test.YtiffdfpkfcielabDoorKMath2
namespace Go.Proofs.YtiffdfpkfcielabDoor
open Go.ChangeShapes Go.WideShapes Go.ChangeAt Go.RowKit
set_option linter.unusedSimpArgs false
set_option linter.unusedVariables false

set_option maxHeartbeats 2000000 in
theorem pi_any (va : Value) (f : Nat → Nat) (hf : ∀ i, f i < 18446744073709551616) (w : World) (hr : RdI .u64 w va (stL f)) :
    Calls Tryd.prog 26 #[va] w fun e w' => ∃ v, e = .returned v ∧ NewI .u64 22 w v (stL (piF f)) w' := by
  have Hr : Hid (RdI .u64 w va (stL f)) := hr
  clear hr hf
  go_enter Tryd.func26, Tryd.ntmps26
  go_wp2_with fail
  refine (lanes_any _).mono ?_
  rintro e w1 ⟨v3, rfl, hN1⟩
  rw [piP_start f] at hN1
  go_wp2_with fail
  go_loopw [4] (fun i wr => ∃ X : Nat, X ≤ 5 ∧ i = .int .i64 X ∧ NewI .u64 22 w v3 (stL (piP f X 0)) wr) (fun i _ => 5 - (intOf i).toNat)
  case atStart => exact ⟨0, by omega, rfl, hN1⟩
  case round =>
    obtain ⟨X, hX, rfl, hN2⟩ := hrel
    by_cases hX5 : X < 5
    · have hd1 : decide ((X : Int) < 5) = true := decide_eq_true (by omega)
      go_wp2_with fail
      go_loopw [5] (fun i wr => ∃ Y : Nat, Y ≤ 5 ∧ i = .int .i64 Y ∧ NewI .u64 22 w v3 (stL (piP f X Y)) wr) (fun i _ => 5 - (intOf i).toNat)
      case atStart => exact ⟨0, by omega, rfl, hN2⟩
      case round =>
        obtain ⟨Y, hY, rfl, hN3⟩ := hrel
        by_cases hY5 : Y < 5
        · obtain ⟨b, off, cap, eva, hcap, hmax, _, hca⟩ := (Hr.out.kept hN3.2).cells (stL_ne f)
          have hck := hca ((X + 3 * Y) % 5 + 5 * X) (by rw [stL_length]; omega)
          rw [stL_get f _ (by omega)] at hck
          rw [stL_length] at hcap
          obtain ⟨g, cap3, ev3, hg, hcap3, hc, hfz, hst⟩ := hN3.at (j := X + 5 * Y) (by rw [stL_length]; omega)
          rw [stL_length] at hcap3
          have HST : Hid _ := hst
          have HS : Hid _ := piP_set f X Y hX5 hY5
          rw [stL_length] at eva ev3
          subst eva ev3
          have hi1 : ((X : Int) + 3 * (Y : Int)) % 5 + 5 * (X : Int) < 25 := by omega
          have hi2 : (X : Int) + 5 * (Y : Int) < 25 := by omega
          generalize hq : f ((X + 3 * Y) % 5 + 5 * X) = q at hck HS
          generalize (stL (piP f X Y)).getD (X + 5 * Y) 0 = q2 at hc
          clear hca hst hq hN2 hN1
          go_wp2
          go_roundw
          case rel => exact ⟨Y + 1, by omega, by go_num, by rw [← HS.out]; exact HST.out _⟩
          case measure => simp [intOf]; omega
        · have hYe : Y = 5 := by omega
          subst hYe
          rw [piP_end] at hN3
          go_wp2
          go_roundw
          case rel => exact ⟨X + 1, by omega, by go_num, hN3⟩
          case measure => simp [intOf]; omega
    · have hXe : X = 5 := by omega
      subst hXe
      rw [piP_done] at hN2
      go_wp2
      go_ret
      exact ⟨_, rfl, hN2⟩

set_option maxHeartbeats 4000000 in
theorem chi_any (va : Value) (f : Nat → Nat) (hf : ∀ i, f i < 18446744073709551616) (w : World) (hr : RdI .u64 w va (stL f)) :
    Calls Tryd.prog 25 #[va] w fun e w' => ∃ v, e = .returned v ∧ NewI .u64 22 w v (stL (chF f)) w' := by
  have Hr : Hid (RdI .u64 w va (stL f)) := hr
  have Hf : Hid (∀ i, f i < 18446744073709551616) := hf
  clear hr hf
  go_enter Tryd.func25, Tryd.ntmps25
  go_wp2_with fail
  refine (lanes_any _).mono ?_
  rintro e w1 ⟨v3, rfl, hN1⟩
  rw [chP_start f] at hN1
  go_wp2_with fail
  go_loopw [4] (fun i wr => ∃ X : Nat, X ≤ 5 ∧ i = .int .i64 X ∧ NewI .u64 22 w v3 (stL (chP f X 0 0)) wr) (fun i _ => 5 - (intOf i).toNat)
  case atStart => exact ⟨0, by omega, rfl, hN1⟩
  case round =>
    obtain ⟨X, hX, rfl, hN2⟩ := hrel
    by_cases hX5 : X < 5
    · have hd1 : decide ((X : Int) < 5) = true := decide_eq_true (by omega)
      go_wp2_with fail
      go_loopw [5] (fun i wr => ∃ Y : Nat, Y ≤ 5 ∧ i = .int .i64 Y ∧ NewI .u64 22 w v3 (stL (chP f X Y 0)) wr) (fun i _ => 5 - (intOf i).toNat)
      case atStart => exact ⟨0, by omega, rfl, hN2⟩
      case round =>
        obtain ⟨Y, hY, rfl, hN3⟩ := hrel
        by_cases hY5 : Y < 5
        · have hd2 : decide ((Y : Int) < 5) = true := decide_eq_true (by omega)
          go_wp2_with fail
          go_loopw [6] (fun i wr => ∃ Z : Nat, Z ≤ 64 ∧ i = .int .i64 Z ∧ NewI .u64 22 w v3 (stL (chP f X Y Z)) wr) (fun i _ => 64 - (intOf i).toNat)
          case atStart => exact ⟨0, by omega, rfl, hN3⟩
          case round =>
            obtain ⟨Z, hZ, rfl, hN4⟩ := hrel
            by_cases hZ64 : Z < 64
            · have hr4 := Hr.out.kept hN4.2
              clear hN1 hN2 hN3
              go_wp2_with fail
              refine (bit_any _ f Hf.out _ _ _ X Y Z (by omega) (by omega) (by omega) (by omega) (by omega) (by omega) (by omega) (by omega) (by omega) _ hr4).mono ?_
              rintro e w' ⟨rfl, rfl⟩
              have hb0 := bitN_lt f X Y Z
              generalize hq0 : bitN f X Y Z = q0 at hb0
              have HQ0 : Hid _ := hq0
              clear hq0
              go_wp2_with fail
              refine (bit_any _ f Hf.out _ _ _ ((X + 1) % 5) Y Z (by omega) (by omega) (by omega) (by omega) (by omega) (by omega) (by omega) (by omega) (by omega) _ hr4).mono ?_
              rintro e w' ⟨rfl, rfl⟩
              have hb1 := bitN_lt f ((X + 1) % 5) Y Z
              generalize hq1 : bitN f ((X + 1) % 5) Y Z = q1 at hb1
              have HQ1 : Hid _ := hq1
              clear hq1
              have hb2 := bitN_lt f ((X + 2) % 5) Y Z
              have HB : Hid (chB f X Y Z = decide ((q0 + if q1 = 0 ∧ bitN f ((X + 2) % 5) Y Z = 1 then 1 else 0) % 2 = 1)) := by unfold chB; rw [Hid, HQ0.out, HQ1.out]
              have hcase : q1 = 0 ∨ q1 = 1 := by omega
              rcases hcase with rfl | rfl
              · go_wp2_with fail
                refine (bit_any _ f Hf.out _ _ _ ((X + 2) % 5) Y Z (by omega) (by omega) (by omega) (by omega) (by omega) (by omega) (by omega) (by omega) (by omega) _ hr4).mono ?_
                rintro e w' ⟨rfl, rfl⟩
                generalize bitN f ((X + 2) % 5) Y Z = q2 at hb2 HB
                have hcase2 : (q2 = 0 ∧ q0 = 0) ∨ (q2 = 0 ∧ q0 = 1) ∨ (q2 = 1 ∧ q0 = 0) ∨ (q2 = 1 ∧ q0 = 1) := by omega
                rcases hcase2 with ⟨rfl, rfl⟩ | ⟨rfl, rfl⟩ | ⟨rfl, rfl⟩ | ⟨rfl, rfl⟩
                · rw [chP_skip f X Y Z (by rw [HB.out]; rfl)] at hN4
                  go_wp2
                  go_roundw
                  case rel => exact ⟨Z + 1, by omega, by go_num, hN4⟩
                  case measure => simp [intOf]; omega
                · go_wp2_with fail
                  refine (put_any _ _ _ _ _ X Y Z rfl rfl rfl hX5 hY5 hZ64 _ _ hN4 (by rw [chP_lane f X Y Z hX5]; exact pow_room _ Z hZ64)).mono ?_
                  rintro e w5 ⟨rfl, hN5⟩
                  rw [chP_put f X Y Z hX5 (by rw [HB.out]; rfl)] at hN5
                  go_wp2
                  go_roundw
                  case rel => exact ⟨Z + 1, by omega, by go_num, hN5⟩
                  case measure => simp [intOf]; omega
                · go_wp2_with fail
                  refine (put_any _ _ _ _ _ X Y Z rfl rfl rfl hX5 hY5 hZ64 _ _ hN4 (by rw [chP_lane f X Y Z hX5]; exact pow_room _ Z hZ64)).mono ?_
                  rintro e w5 ⟨rfl, hN5⟩
                  rw [chP_put f X Y Z hX5 (by rw [HB.out]; rfl)] at hN5
                  go_wp2
                  go_roundw
                  case rel => exact ⟨Z + 1, by omega, by go_num, hN5⟩
                  case measure => simp [intOf]; omega
                · rw [chP_skip f X Y Z (by rw [HB.out]; rfl)] at hN4
                  go_wp2
                  go_roundw
                  case rel => exact ⟨Z + 1, by omega, by go_num, hN4⟩
                  case measure => simp [intOf]; omega
              · have hcase2 : q0 = 0 ∨ q0 = 1 := by omega
                rcases hcase2 with rfl | rfl
                · rw [chP_skip f X Y Z (by rw [HB.out]; simp)] at hN4
                  go_wp2
                  go_roundw
                  case rel => exact ⟨Z + 1, by omega, by go_num, hN4⟩
                  case measure => simp [intOf]; omega
                · go_wp2_with fail
                  refine (put_any _ _ _ _ _ X Y Z rfl rfl rfl hX5 hY5 hZ64 _ _ hN4 (by rw [chP_lane f X Y Z hX5]; exact pow_room _ Z hZ64)).mono ?_
                  rintro e w5 ⟨rfl, hN5⟩
                  rw [chP_put f X Y Z hX5 (by rw [HB.out]; simp)] at hN5
                  go_wp2
                  go_roundw
                  case rel => exact ⟨Z + 1, by omega, by go_num, hN5⟩
                  case measure => simp [intOf]; omega
            · have hZe : Z = 64 := by omega
              subst hZe
              rw [chP_laneEnd] at hN4
              go_wp2
              go_roundw
              case rel => exact ⟨Y + 1, by omega, by go_num, hN4⟩
              case measure => simp [intOf]; omega
        · have hYe : Y = 5 := by omega
          subst hYe
          rw [chP_colEnd] at hN3
          go_wp2
          go_roundw
          case rel => exact ⟨X + 1, by omega, by go_num, hN3⟩
          case measure => simp [intOf]; omega
    · have hXe : X = 5 := by omega
      subst hXe
      rw [chP_done] at hN2
      go_wp2
      go_ret
      exact ⟨_, rfl, hN2⟩
end Go.Proofs.YtiffdfpkfcielabDoor
