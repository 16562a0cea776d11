/- What the document's own values by the factors are, and the way back: contracts of the reference of layer 11, third part. -/
import Derived.Test.YtbladcgdbhogcabDoorRef11b
namespace Go.Proofs.YtbladcgdbhogcabDoor
open Go.ChangeShapes Go.WideShapes Go.ChangeAt Go.RowKit
set_option linter.unusedSimpArgs false
set_option linter.unusedVariables false

theorem fz_mulplus (x y p : FZ) : (x * y + p).val = (x.val * y.val + p.val) % 3329 := by
  rw [fz_val_add, fz_val_mul]
  omega
/-- What the machine reckons of x y + p, and of its rest. -/
theorem horner_facts (x y p : FZ) : ∃ m s v : Nat, v = (x * y + p).val ∧ IntKind.i64.wrap (((x.val : Nat) : Int) * ((y.val : Nat) : Int)) = (m : Int) ∧ IntKind.i64.wrap ((m : Int) + ((p.val : Nat) : Int)) = (s : Int) ∧ ((s : Nat) : Int).tmod 3329 = (v : Int) ∧ IntKind.i64.wrap (v : Int) = (v : Int) := by
  have h1 := mul_lt_fz x y
  have h2 := p.isLt
  have h3 := fz_mulplus x y p
  refine ⟨x.val * y.val, x.val * y.val + p.val, _, rfl, ?_, ?_, ?_, ?_⟩
  · rw [← Int.natCast_mul]
    exact IntWalk.i64_in _ (by omega)
  · exact IntWalk.i64_in _ (by omega)
  · rw [Int.tmod_eq_emod_of_nonneg (by omega), h3]
    omega
  · exact IntWalk.i64_in _ (by omega)
theorem two_facts (i : Nat) (hi : i < 128) : ∃ e o : Nat, e = 2 * i ∧ o = 2 * i + 1 ∧ IntKind.i64.wrap (2 * (i : Int)) = (e : Int) ∧ IntKind.i64.wrap ((e : Int) + 1) = (o : Int) ∧ e < 256 ∧ o < 256 ∧ (e : Int) < 256 ∧ (o : Int) < 256 := by
  refine ⟨2 * i, 2 * i + 1, rfl, rfl, ?_, ?_, by omega, by omega, by omega, by omega⟩
  · rw [IntWalk.i64_in _ (by omega)]; omega
  · rw [IntWalk.i64_in _ (by omega)]; omega

set_option maxRecDepth 100000 in
set_option maxHeartbeats 4000000 in
theorem forward11_any (A : Array Value) (F : Nat → Int) (hF : Po F) (hA : A = ((gI F).map (Value.int .i64)).toArray) (w : World) :
    Calls Tryd.prog 9 #[.agg A] w fun e w' => e = .returned (poV (fwd (rF F))) ∧ Below w.heap.size w w' := by
  have HF : Hid (Po F) := hF
  clear hF
  go_enter Tryd.func9, Tryd.ntmps9
  go_wp2_with (refine wpList_box_row (k := .i64) rfl 22 _ rfl (gI F) (by rw [← hA]; rfl) (gI_ne _) (poMax _) ?_)
  intro w1 ra bn sn
  rw [gI_length] at ra
  have hbw := bn
  have n1 : w.heap.size < w1.heap.size := by have := sn.out; omega
  clear bn sn hA
  go_wp2_with (refine wpList_alloc_row (k := .i64) rfl 22 rfl (gI fun _ => 0) (alloc_po _) (gI_ne _) (poMax _) ?_)
  intro w2 rz bn sn
  rw [gI_length] at rz
  replace ra := ra.kept bn
  replace hbw := stepB hbw bn
  have n2 : w1.heap.size < w2.heap.size := by have := sn.out; omega
  clear bn sn
  go_wp2_with (refine wpList_load_row rfl 22 _ rfl rfl ra _ Tryd.underlying22 rfl (poInfo _) ?_)
  refine (clean11_any _ F HF.out rfl _).mono ?_
  rintro e w4 ⟨rfl, bn⟩
  replace ra := ra.kept bn
  replace rz := rz.kept bn
  replace hbw := stepB hbw bn
  have n4 := bn.size
  clear bn
  go_wp2_with (refine wpList_store_row rfl 22 _ _ rfl (gI (fzF (rF F))) rfl rfl ra (by rw [gI_length, gI_length]) (poInfo _) ?_)
  intro w5 ra5 hw5
  replace rz := rz.wrote hw5 (by omega)
  replace hbw := hw5.below _ _ (Nat.le_refl _) hbw
  have n5 : w4.heap.size ≤ w5.heap.size := Nat.le_of_eq hw5.size.symm
  clear ra hw5
  obtain ⟨a, ha⟩ : ∃ a : Nat → FZ, a = rF F := ⟨_, rfl⟩
  rw [← ha] at ra5
  have HA : Hid _ := ha
  clear ha
  go_wp2_with (refine wpList_alloc_row (k := .i64) rfl 22 rfl (gI fun _ => 0) (alloc_po _) (gI_ne _) (poMax _) ?_)
  intro w6 ro bn sn
  rw [gI_length] at ro
  replace ra5 := ra5.kept bn
  replace rz := rz.kept bn
  replace hbw := stepB hbw bn
  have n6 : w5.heap.size < w6.heap.size := by have := sn.out; omega
  clear bn sn
  go_wp2
  go_loopw [4] (fun iv wx => ∃ (i : Nat) (H : Nat → Int), i ≤ 128 ∧ iv = .int .i64 (i : Int) ∧ Hid (∀ k, k < 256 → H k = if k < 2 * i then fzF (fwd a) k else 0) ∧ RowAt .i64 22 w.heap.size 256 (gI (fzF a)) wx ∧ RowAt .i64 22 w1.heap.size 256 (gI fun _ => 0) wx ∧ RowAt .i64 22 w5.heap.size 256 (gI H) wx ∧ Below w.heap.size w wx) (fun iv _ => 128 - (intOf iv).toNat)
  case atStart => exact ⟨0, fun _ => 0, by omega, rfl, (by show ∀ k, _; intro k _; rw [if_neg (by omega)]), ra5, rz, ro, hbw⟩
  case round =>
    obtain ⟨i, H, hi, rfl, HH, ra, rz', ro', hbx⟩ := hrel
    clear ra5 rz ro hbw
    by_cases hlt : i < 128
    · have hd : decide ((i : Int) < 128) = true := decide_eq_true (by omega)
      have hiI : (i : Int) < 128 := by omega
      have HC : Hid (∀ k, k < 256 → wr.cell? ⟨w.heap.size, k, none⟩ = some (.int .i64 ((((a k).val : Nat) : Int)))) := by
        show ∀ k, _
        intro k hk
        have := ra.cell (j := k) (by rw [gI_length]; exact hk)
        rw [gI_get _ hk] at this
        exact this
      go_wp2_with fail
      refine (root11_any i hlt _ rfl _).mono ?_
      rintro e wq ⟨rfl, rfl⟩
      obtain ⟨z, hz⟩ : ∃ z : FZ, z = zr i := ⟨_, rfl⟩
      rw [← hz]
      have HZ : Hid _ := hz
      clear hz
      rename World => wv
      go_wp2
      go_loop [6, 7, 8] (fun av bv' jv => ∃ m : Nat, m ≤ 128 ∧ jv = .int .i64 ((m : Int) - 1) ∧ av = .int .i64 (((hnr a 0 z m).val : Nat) : Int) ∧ bv' = .int .i64 (((hnr a 1 z m).val : Nat) : Int)) (fun _ _ jv => (intOf jv + 1).toNat)
      case atStart => exact ⟨128, by omega, rfl, rfl, rfl⟩
      case round =>
        obtain ⟨m, hm, rfl, rfl, rfl⟩ := hrel
        by_cases h0 : m = 0
        · obtain ⟨ja, hja⟩ : ∃ x : Nat, x = (hnr a 0 z m).val := ⟨_, rfl⟩
          obtain ⟨jb, hjb⟩ : ∃ x : Nat, x = (hnr a 1 z m).val := ⟨_, rfl⟩
          rw [← hja, ← hjb]
          have hj1 : ((m : Int) - 1) = -1 := by omega
          rw [hj1]
          obtain ⟨e, o, he, ho, x1, x2, l1, l2, l3, l4⟩ := two_facts i hlt
          have HHn : Hid (∀ k, k < 256 → (if k = o then ((jb : Nat) : Int) else if k = e then ((ja : Nat) : Int) else H k) = if k < 2 * (i + 1) then fzF (fwd a) k else 0) := by
            show ∀ k, _
            intro k hk
            by_cases h1 : k = o
            · rw [if_pos h1, if_pos (by omega), hjb, h0, hnr_all, h1, HZ.out]
              unfold fzF fwd
              rw [show o % 2 = 1 by omega, show o / 2 = i by omega]
            · rw [if_neg h1]
              by_cases h2 : k = e
              · rw [if_pos h2, if_pos (by omega), hja, h0, hnr_all, h2, HZ.out]
                unfold fzF fwd
                rw [show e % 2 = 0 by omega, show e / 2 = i by omega]
              · rw [if_neg h2, HH.out k hk]
                by_cases h3 : k < 2 * i
                · rw [if_pos h3, if_pos (by omega)]
                · rw [if_neg h3, if_neg (by omega)]
          have HL1 : Hid (e < 256) := l1
          have HL2 : Hid (o < 256) := l2
          clear he ho hja hjb h0 hj1 hm HC
          go_wp2_with (refine wpList_store_int rfl _ _ rfl rfl _ rfl ro' (by rw [gI_length]; exact HL1.out) ?_)
          intro w8 r8 hw8
          rw [gI_set] at r8
          replace ra := ra.wrote hw8 (by omega)
          replace rz' := rz'.wrote hw8 (by omega)
          replace hbx := hw8.below _ _ (by omega) hbx
          clear hw8 ro'
          go_wp2_with (refine wpList_store_int rfl _ _ rfl rfl _ rfl r8 (by rw [gI_length]; exact HL2.out) ?_)
          intro w9 r9 hw9
          rw [gI_set] at r9
          replace ra := ra.wrote hw9 (by omega)
          replace rz' := rz'.wrote hw9 (by omega)
          replace hbx := hw9.below _ _ (by omega) hbx
          clear hw9 r8
          go_wp2
          go_roundw
          case rel => exact ⟨i + 1, _, by omega, by go_num, HHn, ra, rz', r9, hbx⟩
          case measure => simp [intOf] <;> omega
        · obtain ⟨j, rfl⟩ : ∃ j, m = j + 1 := ⟨m - 1, by omega⟩
          have hj : j < 128 := by omega
          have hjI : (((j + 1 : Nat) : Int) - 1) = (j : Int) := by omega
          rw [hjI]
          have hd0 : decide ((0 : Int) ≤ (j : Int)) = true := decide_eq_true (by omega)
          obtain ⟨e, o, he, ho, x1, x2, l1, l2, l3, l4⟩ := two_facts j hj
          have c0 := HC.out e l1
          have c1 := HC.out o l2
          have s0 := hnr_step a 0 z j hj
          have s1 := hnr_step a 1 z j hj
          rw [show 0 + 2 * j = e by omega] at s0
          rw [show 1 + 2 * j = o by omega] at s1
          obtain ⟨m0, t0, v0, hv0, y1, y2, y3, y4⟩ := horner_facts (hnr a 0 z (j + 1)) z (a e)
          obtain ⟨m1, t1, v1, hv1, u1, u2, u3, u4⟩ := horner_facts (hnr a 1 z (j + 1)) z (a o)
          rw [← s0] at hv0
          rw [← s1] at hv1
          have HV0 : Hid _ := hv0
          have HV1 : Hid _ := hv1
          generalize (hnr a 0 z (j + 1)).val = A0 at y1 ⊢
          generalize (hnr a 1 z (j + 1)).val = A1 at u1 ⊢
          generalize (a e).val = p0 at c0 y2
          generalize (a o).val = p1 at c1 u2
          clear he ho s0 s1 hv0 hv1 hjI h0 hm
          go_wp2
          go_round
          case rel => exact ⟨j, by omega, by go_num, by rw [← HV0.out], by rw [← HV1.out]⟩
          case measure => simp [intOf] <;> omega
    · have hie : i = 128 := by omega
      have hd : decide ((i : Int) < 128) = false := decide_eq_false (by omega)
      have hiI : (128 : Int) ≤ (i : Int) := by omega
      have HE : Hid (gI H = gI (fzF (fwd a))) := by
        show _ = _
        exact gI_congr fun k hk => by rw [HH.out k hk, if_pos (by omega)]
      clear hie
      rw [HE.out] at ro'
      go_wp2_with (first | refine wpList_load_row rfl 22 _ rfl rfl ro' _ Tryd.underlying22 rfl (poInfo _) ?_ | (refine wpList_store_row rfl 22 _ _ rfl (gI (fzF (fwd a))) rfl rfl rz' (by rw [gI_length, gI_length]) (poInfo _) ?_; intro w9 r9 hw9))
      refine bodyPost_row (k := .i64) rfl rfl rfl r9 Tryd.underlying22 rfl (poInfo _) ?_
      exact ⟨by rw [HA.out], hw9.below _ _ (by omega) hbx⟩
end Go.Proofs.YtbladcgdbhogcabDoor
