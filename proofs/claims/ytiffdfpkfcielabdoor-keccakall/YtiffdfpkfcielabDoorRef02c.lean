/- What the document's own steps on states answer, bit by bit: contracts of the reference of layer 2, third part: Rho, and the bits of the constants. -/
import Derived.Test.YtiffdfpkfcielabDoorRef02b
namespace Go.Proofs.YtiffdfpkfcielabDoor
open Go.ChangeShapes Go.WideShapes Go.ChangeAt Go.RowKit
set_option linter.unusedSimpArgs false
set_option linter.unusedVariables false

set_option maxHeartbeats 4000000 in
theorem rho_any (va : Value) (f : Nat → Nat) (hf : ∀ i, f i < 18446744073709551616) (w : World) (hr : RdI .u64 w va (stL f)) :
    Calls Tryd.prog 27 #[va] w fun e w' => ∃ v, e = .returned v ∧ NewI .u64 22 w v (stL (rhF f)) w' := by
  have Hr : Hid (RdI .u64 w va (stL f)) := hr
  have Hf : Hid (∀ i, f i < 18446744073709551616) := hf
  clear hr hf
  go_enter Tryd.func27, Tryd.ntmps27
  go_wp2_with fail
  refine (lanes_any _).mono ?_
  rintro e w1 ⟨v3, rfl, hN1⟩
  obtain ⟨b, off, cap, eva, hcap, hmax, _, hca⟩ := (Hr.out.kept hN1.2).cells (stL_ne f)
  have hck := hca 0 (by rw [stL_length]; omega)
  rw [stL_get f _ (by omega)] at hck
  obtain ⟨g, cap3, ev3, hg, hcap3, hc, hfz, hst⟩ := hN1.at (j := 0) (by rw [stL_length]; omega)
  rw [stL_length] at hcap hcap3 eva ev3
  have HST : Hid _ := hst
  have HS : Hid _ := rhP_start f
  subst eva ev3
  generalize f 0 = q at hck HS
  generalize (stL (fun _ => 0)).getD 0 0 = q2 at hc
  have hoff : off + 0 = off := rfl
  rw [hoff] at hck
  clear hca hst hN1 hoff
  go_wp2_with fail
  clear hck hc hfz
  have hN2 := HST.out (q : Int)
  rw [HS.out] at hN2
  clear HST HS
  generalize w1.setCell ⟨g, 0, none⟩ (.int .u64 (q : Int)) = w2 at hN2
  go_loopw [4, 5, 6] (fun xv yv i wr => ∃ t x y : Nat, t ≤ 24 ∧ x < 5 ∧ y < 5 ∧ i = .int .i64 t ∧ xv = .int .i64 x ∧ yv = .int .i64 y ∧ Hid (rhXY t = (x, y)) ∧ NewI .u64 22 w (.slice (some ⟨g, 0, none⟩) 25 cap3) (stL (rhP f t 0)) wr) (fun _ _ i _ => 24 - (intOf i).toNat)
  case atStart => exact ⟨0, 1, 0, by omega, by omega, by omega, rfl, rfl, rfl, rfl, hN2⟩
  case round =>
    obtain ⟨t, x, y, ht, hx, hy, rfl, rfl, rfl, HXY, hN3⟩ := hrel
    clear hN2
    by_cases ht24 : t < 24
    · have hd1 : decide ((t : Int) < 24) = true := decide_eq_true (by omega)
      obtain ⟨p, hp⟩ : ∃ p : Nat, p = (t + 1) * (t + 2) := ⟨_, rfl⟩
      have hpb : p ≤ 600 := by
        rw [hp]
        exact Nat.le_trans (Nat.mul_le_mul (show t + 1 ≤ 24 by omega) (show t + 2 ≤ 25 by omega)) (by decide)
      have hpi : ((t : Int) + 1) * ((t : Int) + 2) = (p : Int) := by rw [hp]; simp
      obtain ⟨bb, hbb⟩ : ∃ bb : Nat, bb = p / 2 % 64 := ⟨_, rfl⟩
      have hbi : (p : Int) / 2 % 64 = (bb : Int) := by omega
      have hbl : bb < 64 := by omega
      have HBy : Hid (rhBy t = bb) := by rw [hbb, hp]; rfl
      clear hp hbb
      go_wp2_with fail
      have HBI : Hid ((p : Int) / 2 % 64 = (bb : Int)) := hbi
      have hpb' : 0 ≤ (p : Int) / 2 % 64 := by omega
      have hpb2 : (p : Int) / 2 % 64 < 64 := by omega
      clear hpi hbi hpb
      go_loopw [8] (fun i wr => ∃ Z : Nat, Z ≤ 64 ∧ i = .int .i64 Z ∧ NewI .u64 22 w (.slice (some ⟨g, 0, none⟩) 25 cap3) (stL (rhP f t Z)) wr) (fun i _ => 64 - (intOf i).toNat)
      case atStart => exact ⟨0, by omega, rfl, hN3⟩
      case round =>
        obtain ⟨Z, hZ, rfl, hN4⟩ := hrel
        by_cases hZ64 : Z < 64
        · have hr4 := Hr.out.kept hN4.2
          clear hN3
          go_wp2_with fail
          refine (bit_any _ f Hf.out _ _ _ x y Z (by omega) (by omega) (by omega) (by omega) (by omega) (by omega) (by omega) (by omega) (by omega) _ hr4).mono ?_
          rintro e w' ⟨rfl, rfl⟩
          have hb0 := bitN_lt f x y Z
          generalize hq0 : bitN f x y Z = q0 at hb0
          have HQ0 : Hid _ := hq0
          clear hq0
          have hcase : q0 = 0 ∨ q0 = 1 := by omega
          rcases hcase with rfl | rfl
          · rw [rhP_skip f t Z hZ64 (by rw [HXY.out]; show bitN f x y Z ≠ 1; rw [HQ0.out]; decide)] at hN4
            go_wp2
            go_roundw
            case rel => exact ⟨Z + 1, by omega, by go_num, hN4⟩
            case measure => simp [intOf]; omega
          · have hbit : bitN f (rhXY t).1 (rhXY t).2 Z = 1 := by rw [HXY.out]; exact HQ0.out
            have HP : Hid _ := rhP_put f t Z ht24 hZ64 hbit
            have HRm : Hid _ := rhP_room f t Z ht24 hZ64 hbit
            clear hbit
            rw [HXY.out, HBy.out] at HP HRm
            go_wp2_with fail
            refine (put_any _ _ _ _ _ x y ((Z + bb) % 64) rfl rfl (by have := HBI.out; omega) hx hy (by omega) _ _ hN4 HRm.out).mono ?_
            rintro e w5 ⟨rfl, hN5⟩
            have hN6 : NewI .u64 22 w (.slice (some ⟨g, 0, none⟩) 25 cap3) (stL (rhP f t (Z + 1))) w5 := by rw [← HP.out]; exact hN5
            clear hN5
            go_wp2
            go_roundw
            case rel => exact ⟨Z + 1, by omega, by go_num, hN6⟩
            case measure => simp [intOf]; omega
        · have hZe : Z = 64 := by omega
          subst hZe
          rw [rhP_stepEnd f t ht24] at hN4
          go_wp2
          go_roundw
          case rel => exact ⟨t + 1, y, (2 * x + 3 * y) % 5, by omega, by omega, by omega, by go_num, rfl, by go_num, by show rhXY (t + 1) = _; unfold rhXY; rw [HXY.out], hN4⟩
          case measure => simp [intOf]; omega
    · have hte : t = 24 := by omega
      subst hte
      rw [rhP_done] at hN3
      go_wp2
      go_ret
      exact ⟨_, rfl, hN3⟩
end Go.Proofs.YtiffdfpkfcielabDoor
