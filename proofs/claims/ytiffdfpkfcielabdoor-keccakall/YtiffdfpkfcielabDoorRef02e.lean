/- What the document's own Iota answers for a round that is one: contracts of the reference of layer 2, fifth part. -/
import Derived.Test.YtiffdfpkfcielabDoorRef02d
namespace Go.Proofs.YtiffdfpkfcielabDoor
open Go.ChangeShapes Go.WideShapes Go.ChangeAt Go.RowKit
set_option linter.unusedSimpArgs false
set_option linter.unusedVariables false

theorem rc_int (T : Int) (t : Nat) (hT : T = t) (ht : t ≤ 1000) (b : Bool) (hb : rcB t = b) (w : World) :
    Calls Tryd.prog 30 #[.int .i64 T] w fun e w' => e = .returned (.int .i64 (if b then 1 else 0)) ∧ Below w.heap.size w w' := by
  subst hT
  refine (rc_any t ht w).mono fun e w' h => ?_
  rw [rc_bit, hb] at h
  exact h
theorem ioP_lane (f : Nat → Nat) (i J : Nat) : (stL (ioP f i J)).getD 0 0 = ((ioL (f 0) i J : Nat) : Int) := by
  rw [stL_get _ _ (by decide)]; rfl

set_option maxHeartbeats 8000000 in
theorem iota_in (va : Value) (f : Nat → Nat) (hf : ∀ i, f i < 18446744073709551616) (i : Nat) (hi : i ≤ 23) (w : World) (hr : RdI .u64 w va (stL f)) :
    Calls Tryd.prog 24 #[va, .int .i64 (i : Int)] w fun e w' => ∃ v, e = .returned v ∧ NewI .u64 22 w v (stL (ioF f i)) w' := by
  have Hr : Hid (RdI .u64 w va (stL f)) := hr
  have Hf : Hid (∀ i, f i < 18446744073709551616) := hf
  have h0 : ¬ (i : Int) < 0 := by omega
  have h23 : (i : Int) ≤ 23 := by omega
  clear hr hf
  go_enter Tryd.func24, Tryd.ntmps24
  go_wp2_with fail
  refine (lanes_any _).mono ?_
  rintro e w1 ⟨v5, rfl, hN1⟩
  go_wp2_with (refine wpList_copy_newI (w := w) rfl _ _ 27 rfl 22 Tryd.underlying27 sizeU64 v5 _ rfl hN1 va _ rfl (Hr.out.kept hN1.2) (by rw [stL_length, stL_length]) (stL_ne _) ?_)
  intro w2 hN2
  clear hN1
  rw [ioP_zero f i (Hf.out 0)] at hN2
  have hd0 : decide ((i : Int) < 0) = false := decide_eq_false (by omega)
  have hd1 : decide (23 < (i : Int)) = false := decide_eq_false (by omega)
  go_wp2_with fail
  go_loopw [6] (fun j wr => ∃ J : Nat, J ≤ 7 ∧ j = .int .i64 J ∧ NewI .u64 22 w v5 (stL (ioP f i J)) wr) (fun j _ => 7 - (intOf j).toNat)
  case atStart => exact ⟨0, by omega, rfl, hN2⟩
  case round =>
    obtain ⟨J, hJ, rfl, hN3⟩ := hrel
    clear hN2
    have hcase : J = 0 ∨ J = 1 ∨ J = 2 ∨ J = 3 ∨ J = 4 ∨ J = 5 ∨ J = 6 ∨ J = 7 := by omega
    rcases hcase with rfl | rfl | rfl | rfl | rfl | rfl | rfl | rfl
    · obtain ⟨rb, hrb⟩ : ∃ b, rcB (0 + 7 * i) = b := ⟨_, rfl⟩
      have HRB : Hid _ := hrb
      clear hrb
      go_wp2_with fail
      refine (rc_int _ (0 + 7 * i) (by omega) (by omega) rb HRB.out _).mono ?_
      rintro e w4 ⟨rfl, hB4⟩
      have hN4 := hN3.kept hB4
      have hr4 := Hr.out.kept hN4.2
      clear hN3 hB4
      cases rb with
      | false =>
        rw [ioP_skip f i 0 HRB.out] at hN4
        go_wp2
        go_roundw
        case rel => exact ⟨1, by omega, rfl, hN4⟩
        case measure => simp [intOf]
      | true =>
        go_wp2_with fail
        refine (bit_any _ f Hf.out _ _ _ 0 0 0 (by omega) (by omega) (by omega) (by omega) (by omega) (by omega) (by omega) (by omega) (by omega) _ hr4).mono ?_
        rintro e w' ⟨rfl, rfl⟩
        have hb0 := bitN_lt f 0 0 0
        generalize hq0 : bitN f 0 0 0 = q0 at hb0
        have HQ0 : Hid (f 0 / 2 ^ (2 ^ 0 - 1) % 2 = q0) := hq0
        clear hq0
        obtain ⟨g, cap, ev, hg, hcap, hc, hfz, hst⟩ := hN4.at (j := 0) (by rw [stL_length]; omega)
        rw [stL_length] at ev hcap
        subst ev
        rw [ioP_lane] at hc
        have hlt := ioL_lt (f 0) i 0
        have hlt2 := ioL_lt (f 0) i 1
        have HST : Hid (∀ x : Int, x = ((ioL (f 0) i 1 : Nat) : Int) → NewI .u64 22 w (.slice (some ⟨g, 0, none⟩) 25 cap) (stL (ioP f i 1)) (w'.setCell ⟨g, 0, none⟩ (.int .u64 x))) := by
          intro x hx
          rw [← ioP_set f i 0, ← hx]
          exact hst x
        have hcase : q0 = 0 ∨ q0 = 1 := by omega
        rcases hcase with rfl | rfl
        · have HL : Hid _ := ioL_up (f 0) i 0 (by decide) HRB.out HQ0.out
          generalize ioL (f 0) i 0 = q at hc hlt HL
          clear hst hN4
          go_wp2
          go_roundw
          case rel => exact ⟨1, by omega, rfl, HST.out _ (by have h := HL.out; rw [IntKind.wrap_u64]; simp only [Nat.reduceAdd, Nat.reducePow, Nat.reduceSub] at h; omega)⟩
          case measure => simp [intOf]
        · have HL : Hid _ := ioL_down (f 0) i 0 (by decide) HRB.out HQ0.out
          generalize ioL (f 0) i 0 = q at hc hlt HL
          clear hst hN4
          go_wp2
          go_roundw
          case rel => exact ⟨1, by omega, rfl, HST.out _ (by have h := HL.out; rw [IntKind.wrap_u64]; simp only [Nat.reduceAdd, Nat.reducePow, Nat.reduceSub] at h; omega)⟩
          case measure => simp [intOf]
    · obtain ⟨rb, hrb⟩ : ∃ b, rcB (1 + 7 * i) = b := ⟨_, rfl⟩
      have HRB : Hid _ := hrb
      clear hrb
      go_wp2_with fail
      refine (rc_int _ (1 + 7 * i) (by omega) (by omega) rb HRB.out _).mono ?_
      rintro e w4 ⟨rfl, hB4⟩
      have hN4 := hN3.kept hB4
      have hr4 := Hr.out.kept hN4.2
      clear hN3 hB4
      cases rb with
      | false =>
        rw [ioP_skip f i 1 HRB.out] at hN4
        go_wp2
        go_roundw
        case rel => exact ⟨2, by omega, rfl, hN4⟩
        case measure => simp [intOf]
      | true =>
        go_wp2_with fail
        refine (bit_any _ f Hf.out _ _ _ 0 0 1 (by omega) (by omega) (by omega) (by omega) (by omega) (by omega) (by omega) (by omega) (by omega) _ hr4).mono ?_
        rintro e w' ⟨rfl, rfl⟩
        have hb0 := bitN_lt f 0 0 1
        generalize hq0 : bitN f 0 0 1 = q0 at hb0
        have HQ0 : Hid (f 0 / 2 ^ (2 ^ 1 - 1) % 2 = q0) := hq0
        clear hq0
        obtain ⟨g, cap, ev, hg, hcap, hc, hfz, hst⟩ := hN4.at (j := 0) (by rw [stL_length]; omega)
        rw [stL_length] at ev hcap
        subst ev
        rw [ioP_lane] at hc
        have hlt := ioL_lt (f 0) i 1
        have hlt2 := ioL_lt (f 0) i 2
        have HST : Hid (∀ x : Int, x = ((ioL (f 0) i 2 : Nat) : Int) → NewI .u64 22 w (.slice (some ⟨g, 0, none⟩) 25 cap) (stL (ioP f i 2)) (w'.setCell ⟨g, 0, none⟩ (.int .u64 x))) := by
          intro x hx
          rw [← ioP_set f i 1, ← hx]
          exact hst x
        have hcase : q0 = 0 ∨ q0 = 1 := by omega
        rcases hcase with rfl | rfl
        · have HL : Hid _ := ioL_up (f 0) i 1 (by decide) HRB.out HQ0.out
          generalize ioL (f 0) i 1 = q at hc hlt HL
          clear hst hN4
          go_wp2
          go_roundw
          case rel => exact ⟨2, by omega, rfl, HST.out _ (by have h := HL.out; rw [IntKind.wrap_u64]; simp only [Nat.reduceAdd, Nat.reducePow, Nat.reduceSub] at h; omega)⟩
          case measure => simp [intOf]
        · have HL : Hid _ := ioL_down (f 0) i 1 (by decide) HRB.out HQ0.out
          generalize ioL (f 0) i 1 = q at hc hlt HL
          clear hst hN4
          go_wp2
          go_roundw
          case rel => exact ⟨2, by omega, rfl, HST.out _ (by have h := HL.out; rw [IntKind.wrap_u64]; simp only [Nat.reduceAdd, Nat.reducePow, Nat.reduceSub] at h; omega)⟩
          case measure => simp [intOf]
    · obtain ⟨rb, hrb⟩ : ∃ b, rcB (2 + 7 * i) = b := ⟨_, rfl⟩
      have HRB : Hid _ := hrb
      clear hrb
      go_wp2_with fail
      refine (rc_int _ (2 + 7 * i) (by omega) (by omega) rb HRB.out _).mono ?_
      rintro e w4 ⟨rfl, hB4⟩
      have hN4 := hN3.kept hB4
      have hr4 := Hr.out.kept hN4.2
      clear hN3 hB4
      cases rb with
      | false =>
        rw [ioP_skip f i 2 HRB.out] at hN4
        go_wp2
        go_roundw
        case rel => exact ⟨3, by omega, rfl, hN4⟩
        case measure => simp [intOf]
      | true =>
        go_wp2_with fail
        refine (bit_any _ f Hf.out _ _ _ 0 0 3 (by omega) (by omega) (by omega) (by omega) (by omega) (by omega) (by omega) (by omega) (by omega) _ hr4).mono ?_
        rintro e w' ⟨rfl, rfl⟩
        have hb0 := bitN_lt f 0 0 3
        generalize hq0 : bitN f 0 0 3 = q0 at hb0
        have HQ0 : Hid (f 0 / 2 ^ (2 ^ 2 - 1) % 2 = q0) := hq0
        clear hq0
        obtain ⟨g, cap, ev, hg, hcap, hc, hfz, hst⟩ := hN4.at (j := 0) (by rw [stL_length]; omega)
        rw [stL_length] at ev hcap
        subst ev
        rw [ioP_lane] at hc
        have hlt := ioL_lt (f 0) i 2
        have hlt2 := ioL_lt (f 0) i 3
        have HST : Hid (∀ x : Int, x = ((ioL (f 0) i 3 : Nat) : Int) → NewI .u64 22 w (.slice (some ⟨g, 0, none⟩) 25 cap) (stL (ioP f i 3)) (w'.setCell ⟨g, 0, none⟩ (.int .u64 x))) := by
          intro x hx
          rw [← ioP_set f i 2, ← hx]
          exact hst x
        have hcase : q0 = 0 ∨ q0 = 1 := by omega
        rcases hcase with rfl | rfl
        · have HL : Hid _ := ioL_up (f 0) i 2 (by decide) HRB.out HQ0.out
          generalize ioL (f 0) i 2 = q at hc hlt HL
          clear hst hN4
          go_wp2
          go_roundw
          case rel => exact ⟨3, by omega, rfl, HST.out _ (by have h := HL.out; rw [IntKind.wrap_u64]; simp only [Nat.reduceAdd, Nat.reducePow, Nat.reduceSub] at h; omega)⟩
          case measure => simp [intOf]
        · have HL : Hid _ := ioL_down (f 0) i 2 (by decide) HRB.out HQ0.out
          generalize ioL (f 0) i 2 = q at hc hlt HL
          clear hst hN4
          go_wp2
          go_roundw
          case rel => exact ⟨3, by omega, rfl, HST.out _ (by have h := HL.out; rw [IntKind.wrap_u64]; simp only [Nat.reduceAdd, Nat.reducePow, Nat.reduceSub] at h; omega)⟩
          case measure => simp [intOf]
    · obtain ⟨rb, hrb⟩ : ∃ b, rcB (3 + 7 * i) = b := ⟨_, rfl⟩
      have HRB : Hid _ := hrb
      clear hrb
      go_wp2_with fail
      refine (rc_int _ (3 + 7 * i) (by omega) (by omega) rb HRB.out _).mono ?_
      rintro e w4 ⟨rfl, hB4⟩
      have hN4 := hN3.kept hB4
      have hr4 := Hr.out.kept hN4.2
      clear hN3 hB4
      cases rb with
      | false =>
        rw [ioP_skip f i 3 HRB.out] at hN4
        go_wp2
        go_roundw
        case rel => exact ⟨4, by omega, rfl, hN4⟩
        case measure => simp [intOf]
      | true =>
        go_wp2_with fail
        refine (bit_any _ f Hf.out _ _ _ 0 0 7 (by omega) (by omega) (by omega) (by omega) (by omega) (by omega) (by omega) (by omega) (by omega) _ hr4).mono ?_
        rintro e w' ⟨rfl, rfl⟩
        have hb0 := bitN_lt f 0 0 7
        generalize hq0 : bitN f 0 0 7 = q0 at hb0
        have HQ0 : Hid (f 0 / 2 ^ (2 ^ 3 - 1) % 2 = q0) := hq0
        clear hq0
        obtain ⟨g, cap, ev, hg, hcap, hc, hfz, hst⟩ := hN4.at (j := 0) (by rw [stL_length]; omega)
        rw [stL_length] at ev hcap
        subst ev
        rw [ioP_lane] at hc
        have hlt := ioL_lt (f 0) i 3
        have hlt2 := ioL_lt (f 0) i 4
        have HST : Hid (∀ x : Int, x = ((ioL (f 0) i 4 : Nat) : Int) → NewI .u64 22 w (.slice (some ⟨g, 0, none⟩) 25 cap) (stL (ioP f i 4)) (w'.setCell ⟨g, 0, none⟩ (.int .u64 x))) := by
          intro x hx
          rw [← ioP_set f i 3, ← hx]
          exact hst x
        have hcase : q0 = 0 ∨ q0 = 1 := by omega
        rcases hcase with rfl | rfl
        · have HL : Hid _ := ioL_up (f 0) i 3 (by decide) HRB.out HQ0.out
          generalize ioL (f 0) i 3 = q at hc hlt HL
          clear hst hN4
          go_wp2
          go_roundw
          case rel => exact ⟨4, by omega, rfl, HST.out _ (by have h := HL.out; rw [IntKind.wrap_u64]; simp only [Nat.reduceAdd, Nat.reducePow, Nat.reduceSub] at h; omega)⟩
          case measure => simp [intOf]
        · have HL : Hid _ := ioL_down (f 0) i 3 (by decide) HRB.out HQ0.out
          generalize ioL (f 0) i 3 = q at hc hlt HL
          clear hst hN4
          go_wp2
          go_roundw
          case rel => exact ⟨4, by omega, rfl, HST.out _ (by have h := HL.out; rw [IntKind.wrap_u64]; simp only [Nat.reduceAdd, Nat.reducePow, Nat.reduceSub] at h; omega)⟩
          case measure => simp [intOf]
    · obtain ⟨rb, hrb⟩ : ∃ b, rcB (4 + 7 * i) = b := ⟨_, rfl⟩
      have HRB : Hid _ := hrb
      clear hrb
      go_wp2_with fail
      refine (rc_int _ (4 + 7 * i) (by omega) (by omega) rb HRB.out _).mono ?_
      rintro e w4 ⟨rfl, hB4⟩
      have hN4 := hN3.kept hB4
      have hr4 := Hr.out.kept hN4.2
      clear hN3 hB4
      cases rb with
      | false =>
        rw [ioP_skip f i 4 HRB.out] at hN4
        go_wp2
        go_roundw
        case rel => exact ⟨5, by omega, rfl, hN4⟩
        case measure => simp [intOf]
      | true =>
        go_wp2_with fail
        refine (bit_any _ f Hf.out _ _ _ 0 0 15 (by omega) (by omega) (by omega) (by omega) (by omega) (by omega) (by omega) (by omega) (by omega) _ hr4).mono ?_
        rintro e w' ⟨rfl, rfl⟩
        have hb0 := bitN_lt f 0 0 15
        generalize hq0 : bitN f 0 0 15 = q0 at hb0
        have HQ0 : Hid (f 0 / 2 ^ (2 ^ 4 - 1) % 2 = q0) := hq0
        clear hq0
        obtain ⟨g, cap, ev, hg, hcap, hc, hfz, hst⟩ := hN4.at (j := 0) (by rw [stL_length]; omega)
        rw [stL_length] at ev hcap
        subst ev
        rw [ioP_lane] at hc
        have hlt := ioL_lt (f 0) i 4
        have hlt2 := ioL_lt (f 0) i 5
        have HST : Hid (∀ x : Int, x = ((ioL (f 0) i 5 : Nat) : Int) → NewI .u64 22 w (.slice (some ⟨g, 0, none⟩) 25 cap) (stL (ioP f i 5)) (w'.setCell ⟨g, 0, none⟩ (.int .u64 x))) := by
          intro x hx
          rw [← ioP_set f i 4, ← hx]
          exact hst x
        have hcase : q0 = 0 ∨ q0 = 1 := by omega
        rcases hcase with rfl | rfl
        · have HL : Hid _ := ioL_up (f 0) i 4 (by decide) HRB.out HQ0.out
          generalize ioL (f 0) i 4 = q at hc hlt HL
          clear hst hN4
          go_wp2
          go_roundw
          case rel => exact ⟨5, by omega, rfl, HST.out _ (by have h := HL.out; rw [IntKind.wrap_u64]; simp only [Nat.reduceAdd, Nat.reducePow, Nat.reduceSub] at h; omega)⟩
          case measure => simp [intOf]
        · have HL : Hid _ := ioL_down (f 0) i 4 (by decide) HRB.out HQ0.out
          generalize ioL (f 0) i 4 = q at hc hlt HL
          clear hst hN4
          go_wp2
          go_roundw
          case rel => exact ⟨5, by omega, rfl, HST.out _ (by have h := HL.out; rw [IntKind.wrap_u64]; simp only [Nat.reduceAdd, Nat.reducePow, Nat.reduceSub] at h; omega)⟩
          case measure => simp [intOf]
    · obtain ⟨rb, hrb⟩ : ∃ b, rcB (5 + 7 * i) = b := ⟨_, rfl⟩
      have HRB : Hid _ := hrb
      clear hrb
      go_wp2_with fail
      refine (rc_int _ (5 + 7 * i) (by omega) (by omega) rb HRB.out _).mono ?_
      rintro e w4 ⟨rfl, hB4⟩
      have hN4 := hN3.kept hB4
      have hr4 := Hr.out.kept hN4.2
      clear hN3 hB4
      cases rb with
      | false =>
        rw [ioP_skip f i 5 HRB.out] at hN4
        go_wp2
        go_roundw
        case rel => exact ⟨6, by omega, rfl, hN4⟩
        case measure => simp [intOf]
      | true =>
        go_wp2_with fail
        refine (bit_any _ f Hf.out _ _ _ 0 0 31 (by omega) (by omega) (by omega) (by omega) (by omega) (by omega) (by omega) (by omega) (by omega) _ hr4).mono ?_
        rintro e w' ⟨rfl, rfl⟩
        have hb0 := bitN_lt f 0 0 31
        generalize hq0 : bitN f 0 0 31 = q0 at hb0
        have HQ0 : Hid (f 0 / 2 ^ (2 ^ 5 - 1) % 2 = q0) := hq0
        clear hq0
        obtain ⟨g, cap, ev, hg, hcap, hc, hfz, hst⟩ := hN4.at (j := 0) (by rw [stL_length]; omega)
        rw [stL_length] at ev hcap
        subst ev
        rw [ioP_lane] at hc
        have hlt := ioL_lt (f 0) i 5
        have hlt2 := ioL_lt (f 0) i 6
        have HST : Hid (∀ x : Int, x = ((ioL (f 0) i 6 : Nat) : Int) → NewI .u64 22 w (.slice (some ⟨g, 0, none⟩) 25 cap) (stL (ioP f i 6)) (w'.setCell ⟨g, 0, none⟩ (.int .u64 x))) := by
          intro x hx
          rw [← ioP_set f i 5, ← hx]
          exact hst x
        have hcase : q0 = 0 ∨ q0 = 1 := by omega
        rcases hcase with rfl | rfl
        · have HL : Hid _ := ioL_up (f 0) i 5 (by decide) HRB.out HQ0.out
          generalize ioL (f 0) i 5 = q at hc hlt HL
          clear hst hN4
          go_wp2
          go_roundw
          case rel => exact ⟨6, by omega, rfl, HST.out _ (by have h := HL.out; rw [IntKind.wrap_u64]; simp only [Nat.reduceAdd, Nat.reducePow, Nat.reduceSub] at h; omega)⟩
          case measure => simp [intOf]
        · have HL : Hid _ := ioL_down (f 0) i 5 (by decide) HRB.out HQ0.out
          generalize ioL (f 0) i 5 = q at hc hlt HL
          clear hst hN4
          go_wp2
          go_roundw
          case rel => exact ⟨6, by omega, rfl, HST.out _ (by have h := HL.out; rw [IntKind.wrap_u64]; simp only [Nat.reduceAdd, Nat.reducePow, Nat.reduceSub] at h; omega)⟩
          case measure => simp [intOf]
    · obtain ⟨rb, hrb⟩ : ∃ b, rcB (6 + 7 * i) = b := ⟨_, rfl⟩
      have HRB : Hid _ := hrb
      clear hrb
      go_wp2_with fail
      refine (rc_int _ (6 + 7 * i) (by omega) (by omega) rb HRB.out _).mono ?_
      rintro e w4 ⟨rfl, hB4⟩
      have hN4 := hN3.kept hB4
      have hr4 := Hr.out.kept hN4.2
      clear hN3 hB4
      cases rb with
      | false =>
        rw [ioP_skip f i 6 HRB.out] at hN4
        go_wp2
        go_roundw
        case rel => exact ⟨7, by omega, rfl, hN4⟩
        case measure => simp [intOf]
      | true =>
        go_wp2_with fail
        refine (bit_any _ f Hf.out _ _ _ 0 0 63 (by omega) (by omega) (by omega) (by omega) (by omega) (by omega) (by omega) (by omega) (by omega) _ hr4).mono ?_
        rintro e w' ⟨rfl, rfl⟩
        have hb0 := bitN_lt f 0 0 63
        generalize hq0 : bitN f 0 0 63 = q0 at hb0
        have HQ0 : Hid (f 0 / 2 ^ (2 ^ 6 - 1) % 2 = q0) := hq0
        clear hq0
        obtain ⟨g, cap, ev, hg, hcap, hc, hfz, hst⟩ := hN4.at (j := 0) (by rw [stL_length]; omega)
        rw [stL_length] at ev hcap
        subst ev
        rw [ioP_lane] at hc
        have hlt := ioL_lt (f 0) i 6
        have hlt2 := ioL_lt (f 0) i 7
        have HST : Hid (∀ x : Int, x = ((ioL (f 0) i 7 : Nat) : Int) → NewI .u64 22 w (.slice (some ⟨g, 0, none⟩) 25 cap) (stL (ioP f i 7)) (w'.setCell ⟨g, 0, none⟩ (.int .u64 x))) := by
          intro x hx
          rw [← ioP_set f i 6, ← hx]
          exact hst x
        have hcase : q0 = 0 ∨ q0 = 1 := by omega
        rcases hcase with rfl | rfl
        · have HL : Hid _ := ioL_up (f 0) i 6 (by decide) HRB.out HQ0.out
          generalize ioL (f 0) i 6 = q at hc hlt HL
          clear hst hN4
          go_wp2
          go_roundw
          case rel => exact ⟨7, by omega, rfl, HST.out _ (by have h := HL.out; rw [IntKind.wrap_u64]; simp only [Nat.reduceAdd, Nat.reducePow, Nat.reduceSub] at h; omega)⟩
          case measure => simp [intOf]
        · have HL : Hid _ := ioL_down (f 0) i 6 (by decide) HRB.out HQ0.out
          generalize ioL (f 0) i 6 = q at hc hlt HL
          clear hst hN4
          go_wp2
          go_roundw
          case rel => exact ⟨7, by omega, rfl, HST.out _ (by have h := HL.out; rw [IntKind.wrap_u64]; simp only [Nat.reduceAdd, Nat.reducePow, Nat.reduceSub] at h; omega)⟩
          case measure => simp [intOf]
    · rw [ioP_done] at hN3
      go_wp2
      go_ret
      exact ⟨_, rfl, hN3⟩

/-- A round of any number: the document's where there is one, else the state itself. -/
def rdI (f : Nat → Nat) (i : Int) : Nat → Nat := if 0 ≤ i ∧ i ≤ 23 then rdF f i.toNat else f
theorem rdI_lt (f : Nat → Nat) (hf : ∀ i, f i < 18446744073709551616) (i : Int) (k : Nat) : rdI f i k < 18446744073709551616 := by
  unfold rdI
  split
  · exact rdF_lt _ _ _
  · exact hf k

set_option maxHeartbeats 1000000 in
theorem round_any (va : Value) (f : Nat → Nat) (hf : ∀ i, f i < 18446744073709551616) (i : Int) (w : World) (hr : RdI .u64 w va (stL f)) :
    Calls Tryd.prog 15 #[va, .int .i64 i] w fun e w' => ∃ v, e = .returned v ∧ RdI .u64 w' v (stL (rdI f i)) ∧ Below w.heap.size w w' := by
  have Hr : Hid (RdI .u64 w va (stL f)) := hr
  have Hf : Hid (∀ i, f i < 18446744073709551616) := hf
  clear hr hf
  have hcase : i < 0 ∨ (0 ≤ i ∧ 23 < i) ∨ (0 ≤ i ∧ i ≤ 23) := by omega
  rcases hcase with h1 | ⟨h1, h2⟩ | ⟨h1, h2⟩
  · have e : rdI f i = f := by unfold rdI; rw [if_neg (by omega)]
    rw [e]
    clear e
    go_enter Tryd.func15, Tryd.ntmps15
    go_wp2
    go_ret
    exact ⟨_, rfl, Hr.out, Below.refl _ _⟩
  · have e : rdI f i = f := by unfold rdI; rw [if_neg (by omega)]
    rw [e]
    clear e
    go_enter Tryd.func15, Tryd.ntmps15
    go_wp2
    go_ret
    exact ⟨_, rfl, Hr.out, Below.refl _ _⟩
  · obtain ⟨n, rfl⟩ := Int.eq_ofNat_of_zero_le h1
    have e : rdI f (n : Int) = rdF f n := by unfold rdI; rw [if_pos (by omega)]; rfl
    rw [e]
    clear e
    go_enter Tryd.func15, Tryd.ntmps15
    go_wp2_with fail
    refine (theta_any _ f Hf.out _ Hr.out).mono ?_
    rintro e w1 ⟨v1, rfl, hN1⟩
    go_wp2_with fail
    refine (rho_any _ _ (thF_lt f) _ hN1.rd).mono ?_
    rintro e w2 ⟨v2, rfl, hN2⟩
    have hB2 := stepB hN1.2 hN2.2
    clear hN1
    go_wp2_with fail
    refine (pi_any _ _ (rhF_lt _ (thF_lt f)) _ hN2.rd).mono ?_
    rintro e w3 ⟨v3, rfl, hN3⟩
    have hB3 := stepB hB2 hN3.2
    clear hN2 hB2
    go_wp2_with fail
    refine (chi_any _ _ (piF_lt _ (rhF_lt _ (thF_lt f))) _ hN3.rd).mono ?_
    rintro e w4 ⟨v4, rfl, hN4⟩
    have hB4 := stepB hB3 hN4.2
    clear hN3 hB3
    go_wp2_with fail
    refine (iota_in _ _ (chF_lt _) n (by omega) _ hN4.rd).mono ?_
    rintro e w5 ⟨v5, rfl, hN5⟩
    have hB5 := stepB hB4 hN5.2
    clear hN4 hB4
    go_wp2
    go_ret
    exact ⟨_, rfl, hN5.rd, hB5⟩

end Go.Proofs.YtiffdfpkfcielabDoor
