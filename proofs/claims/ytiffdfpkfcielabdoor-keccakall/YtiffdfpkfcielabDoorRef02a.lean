/- What the document's own steps on states answer, bit by bit: contracts of the reference of layer 2, first part: bits, lanes, Theta. -/
import Derived.Test.YtiffdfpkfcielabDoorRows
import Derived.Test.YtiffdfpkfcielabDoorLibI
import Derived.Test.YtiffdfpkfcielabDoorKMath
import Derived.WalkSpells
import Derived.RegionTactic
import Derived.BigRegion
namespace Go.Proofs.YtiffdfpkfcielabDoor
open Go.ChangeShapes Go.WideShapes Go.ChangeAt Go.RowKit
set_option linter.unusedSimpArgs false
set_option linter.unusedVariables false

theorem infoU64 : (Tryd.prog.info? 22).map (fun i => (i.zero, i.size, i.bytes)) = some (some (.int .u64 0), 1, 8) := by kernel_rfl

theorem and1_u64 (x : Nat) (hx : x < 18446744073709551616) : bits .and .u64 (x : Int) 1 = ((x % 2 : Nat) : Int) := by
  have h := u64_and_nat x 1 hx (by decide)
  rw [show ((1 : Nat) : Int) = 1 from rfl] at h
  rw [h, Nat.and_one_is_mod]

set_option maxHeartbeats 400000 in
theorem bit_any (v : Value) (f : Nat → Nat) (hf : ∀ i, f i < 18446744073709551616) (x y z : Int) (X Y Z : Nat) (hX : (x + 10) % 5 = X) (hY : (y + 10) % 5 = Y) (hZ : (z + 128) % 64 = Z)
    (x0 : 0 ≤ x + 10) (x1 : x ≤ 1000) (y0 : 0 ≤ y + 10) (y1 : y ≤ 1000) (z0 : 0 ≤ z + 128) (z1 : z ≤ 1000) (w : World) (hr : RdI .u64 w v (stL f)) :
    Calls Tryd.prog 31 #[v, .int .i64 x, .int .i64 y, .int .i64 z] w fun e w' => e = .returned (.int .i64 ((bitN f X Y Z : Nat) : Int)) ∧ w' = w := by
  obtain ⟨b, off, cap, rfl, hcap, hmax, _, hc⟩ := hr.cells (stL_ne f)
  have hX5 : X < 5 := by omega
  have hY5 : Y < 5 := by omega
  have hZ64 : Z < 64 := by omega
  have hck := hc (X + 5 * Y) (by rw [stL_length]; omega)
  rw [stL_get f _ (by omega)] at hck
  rw [stL_length] at hcap ⊢
  have hb := hf (X + 5 * Y)
  have Hb : Hid (f (X + 5 * Y) / 2 ^ Z < 18446744073709551616) := Nat.lt_of_le_of_lt (Nat.div_le_self _ _) hb
  have HA : Hid _ := and1_u64 _ Hb.out
  generalize hq : f (X + 5 * Y) = q at hck hb HA
  have HQ : Hid _ := hq
  clear hq
  clear hc
  go_enter Tryd.func31, Tryd.ntmps31
  go_wp2
  go_ret
  refine ⟨retI ?_, rfl⟩
  have e : ((q : Int) / 2 ^ Z) = ((q / 2 ^ Z : Nat) : Int) := by simp
  rw [e, HA.out]
  unfold bitN
  rw [HQ.out]
  exact IntWalk.wrap64_in _ (by omega)

set_option maxHeartbeats 400000 in
theorem put_any (v : Value) (f : Nat → Nat) (x y z : Int) (X Y Z : Nat) (hX : x = X) (hY : y = Y) (hZ : z = Z) (hX5 : X < 5) (hY5 : Y < 5) (hZ64 : Z < 64) (w0 w : World) (hN : NewI .u64 22 w0 v (stL f) w)
    (hroom : f (X + 5 * Y) + 2 ^ Z < 18446744073709551616) :
    Calls Tryd.prog 32 #[v, .int .i64 x, .int .i64 y, .int .i64 z] w fun e w' => e = .returned (.tuple #[]) ∧ NewI .u64 22 w0 v ((stL f).set (X + 5 * Y) ((f (X + 5 * Y) + 2 ^ Z : Nat) : Int)) w' := by
  subst hX hY hZ
  obtain ⟨g, cap, rfl, hg, hcap, hc, hfz, hst⟩ := hN.at (j := X + 5 * Y) (by rw [stL_length]; omega)
  rw [stL_get f _ (by omega)] at hc
  have HST : Hid _ := hst
  rw [stL_length] at hcap
  generalize hq : f (X + 5 * Y) = q at hc hroom
  have HQ : Hid _ := hq
  have HR : Hid (q + 2 ^ Z < 18446744073709551616) := hroom
  have hlen : (stL f).length = 25 := stL_length f
  clear hq hroom hst hN
  go_enter Tryd.func32, Tryd.ntmps32
  go_wp2
  go_end0
  refine ⟨rfl, ?_⟩
  have e1 : (2 : Int) ^ Z = ((2 ^ Z : Nat) : Int) := by simp
  have e2 : IntKind.u64.wrap ((q : Int) + IntKind.u64.wrap (2 ^ Z)) = ((q + 2 ^ Z : Nat) : Int) := by
    have h := HR.out
    rw [IntKind.wrap_u64, IntKind.wrap_u64, e1]
    generalize 2 ^ Z = p at h
    omega
  rw [e2]
  exact HST.out _

set_option maxHeartbeats 400000 in
theorem lanes_any (w : World) : Calls Tryd.prog 20 #[] w fun e w' => ∃ v, e = .returned v ∧ NewI .u64 22 w v (stL (fun _ => 0)) w' := by
  obtain ⟨i, hi, hz0, hz1, hz2⟩ := info_parts infoU64
  go_enter Tryd.func20, Tryd.ntmps20
  go_wp2_with (at_make; go_must (refine wpList_make_full _ rfl _ _ 27 rfl w.heap.size 22 i _ 1 Tryd.underlying27 hi hz0 hz1 _ _ _ _ 25 rfl rfl rfl rfl (by rw [hz2]; omega) (by unfold maxLen; omega) (Nat.le_refl _) ?_))
  intro w1 hown hgr
  have hN := NewI.made hown hgr
  rw [stL_zero] at hN
  go_wp2
  go_ret
  exact ⟨_, rfl, hN⟩

set_option maxHeartbeats 4000000 in
theorem theta_any (va : Value) (f : Nat → Nat) (hf : ∀ i, f i < 18446744073709551616) (w : World) (hr : RdI .u64 w va (stL f)) :
    Calls Tryd.prog 28 #[va] w fun e w' => ∃ v, e = .returned v ∧ NewI .u64 22 w v (stL (thF f)) w' := by
  have Hr : Hid (RdI .u64 w va (stL f)) := hr
  have Hf : Hid (∀ i, f i < 18446744073709551616) := hf
  clear hr hf
  go_enter Tryd.func28, Tryd.ntmps28
  go_wp2_with fail
  refine (lanes_any _).mono ?_
  rintro e w1 ⟨v3, rfl, hN1⟩
  rw [thP_start f] at hN1
  go_wp2_with fail
  go_loopw [4] (fun i wr => ∃ X : Nat, X ≤ 5 ∧ i = .int .i64 X ∧ NewI .u64 22 w v3 (stL (thP f X 0 0)) wr) (fun i _ => 5 - (intOf i).toNat)
  case atStart => exact ⟨0, by omega, rfl, hN1⟩
  case round =>
    obtain ⟨X, hX, rfl, hN2⟩ := hrel
    by_cases hX5 : X < 5
    · have hd1 : decide ((X : Int) < 5) = true := decide_eq_true (by omega)
      go_wp2_with fail
      go_loopw [5] (fun i wr => ∃ Z : Nat, Z ≤ 64 ∧ i = .int .i64 Z ∧ NewI .u64 22 w v3 (stL (thP f X Z 0)) wr) (fun i _ => 64 - (intOf i).toNat)
      case atStart => exact ⟨0, by omega, rfl, hN2⟩
      case round =>
        obtain ⟨Z, hZ, rfl, hN3⟩ := hrel
        by_cases hZ64 : Z < 64
        · have hr3 := Hr.out.kept hN3.2
          have hd2 : decide ((Z : Int) < 64) = true := decide_eq_true (by omega)
          go_wp2_with fail
          go_loop [6, 7] (fun n i => ∃ (Y m : Nat), Y ≤ 5 ∧ i = .int .i64 Y ∧ n = .int .i64 (m : Int) ∧ m ≤ 2 * Y ∧ Hid (m = thN f X Z Y)) (fun _ i => 5 - (intOf i).toNat)
          case atStart => exact ⟨0, 0, by omega, rfl, rfl, by omega, rfl⟩
          case round =>
            obtain ⟨Y, m, hY, rfl, rfl, hm, Hm⟩ := hrel
            by_cases hY5 : Y < 5
            · go_wp2_with fail
              refine (bit_any _ f Hf.out _ _ _ ((X + 4) % 5) Y Z (by omega) (by omega) (by omega) (by omega) (by omega) (by omega) (by omega) (by omega) (by omega) _ hr3).mono ?_
              rintro e w' ⟨rfl, rfl⟩
              have hb1 := bitN_lt f ((X + 4) % 5) Y Z
              generalize hq1 : bitN f ((X + 4) % 5) Y Z = q1 at hb1
              have HQ1 : Hid _ := hq1
              clear hq1
              go_wp2_with fail
              refine (bit_any _ f Hf.out _ _ _ ((X + 1) % 5) Y ((Z + 63) % 64) (by omega) (by omega) (by omega) (by omega) (by omega) (by omega) (by omega) (by omega) (by omega) _ hr3).mono ?_
              rintro e w' ⟨rfl, rfl⟩
              have hb2 := bitN_lt f ((X + 1) % 5) Y ((Z + 63) % 64)
              generalize hq2 : bitN f ((X + 1) % 5) Y ((Z + 63) % 64) = q2 at hb2
              have HQ2 : Hid _ := hq2
              clear hq2
              go_wp2
              go_round
              case rel => exact ⟨Y + 1, m + (q1 + q2), by omega, by go_num, by go_num, by omega, by unfold thN; rw [Hm.out, HQ1.out, HQ2.out]; rfl⟩
              case measure => simp [intOf]; omega
            · have hYe : Y = 5 := by omega
              have Hm5 : Hid (m = thN f X Z 5) := by rw [← hYe]; exact Hm
              clear Hm
              have hm10 : m ≤ 10 := by omega
              have hd3 : decide ((Y : Int) < 5) = false := decide_eq_false (by omega)
              clear hYe
              go_wp2_with fail
              go_loopw [8] (fun i wr => ∃ Y : Nat, Y ≤ 5 ∧ i = .int .i64 Y ∧ NewI .u64 22 w v3 (stL (thP f X Z Y)) wr) (fun i _ => 5 - (intOf i).toNat)
              case atStart => exact ⟨0, by omega, rfl, hN3⟩
              case round =>
                obtain ⟨y, hy, rfl, hN4⟩ := hrel
                by_cases hy5 : y < 5
                · have hr4 := Hr.out.kept hN4.2
                  go_wp2_with fail
                  refine (bit_any _ f Hf.out _ _ _ X y Z (by omega) (by omega) (by omega) (by omega) (by omega) (by omega) (by omega) (by omega) (by omega) _ hr4).mono ?_
                  rintro e w' ⟨rfl, rfl⟩
                  have hb1 := bitN_lt f X y Z
                  generalize hq1 : bitN f X y Z = q1 at hb1
                  have HQ1 : Hid _ := hq1
                  clear hq1
                  by_cases hodd : (m + q1) % 2 = 1
                  · have HT : Hid (thB f X y Z = true) := by unfold thB; rw [Hid, ← Hm5.out, HQ1.out]; exact decide_eq_true hodd
                    have ht : (((m : Int) + (q1 : Int)) % 2 == 1) = true := by rw [beq_iff_eq]; omega
                    clear hodd
                    go_wp2_with fail
                    refine (put_any _ _ _ _ _ X y Z rfl rfl rfl hX5 hy5 hZ64 _ _ hN4 (thP_room f X Z y hX5 hZ64 hy5)).mono ?_
                    rintro e w5 ⟨rfl, hN5⟩
                    rw [thP_put f X Z y hX5 hy5 HT.out] at hN5
                    go_wp2
                    go_roundw
                    case rel => exact ⟨y + 1, by omega, by go_num, hN5⟩
                    case measure => simp [intOf]; omega
                  · have HT : Hid (thB f X y Z = false) := by unfold thB; rw [Hid, ← Hm5.out, HQ1.out]; exact decide_eq_false hodd
                    have ht : (((m : Int) + (q1 : Int)) % 2 == 1) = false := by rw [beq_eq_false_iff_ne]; omega
                    rw [thP_skip f X Z y hX5 HT.out] at hN4
                    clear hodd
                    go_wp2
                    go_roundw
                    case rel => exact ⟨y + 1, by omega, by go_num, hN4⟩
                    case measure => simp [intOf]; omega
                · have hye : y = 5 := by omega
                  subst hye
                  rw [thP_rowEnd] at hN4
                  go_wp2
                  go_roundw
                  case rel => exact ⟨Z + 1, by omega, by go_num, hN4⟩
                  case measure => simp [intOf]; omega
        · have hZe : Z = 64 := by omega
          subst hZe
          rw [thP_colEnd] at hN3
          go_wp2
          go_roundw
          case rel => exact ⟨X + 1, by omega, by go_num, hN3⟩
          case measure => simp [intOf]; omega
    · have hXe : X = 5 := by omega
      subst hXe
      rw [thP_done] at hN2
      go_wp2
      go_ret
      exact ⟨_, rfl, hN2⟩
end Go.Proofs.YtiffdfpkfcielabDoor
