/- What a polynomial is by its factors: contracts of package ntt, sixth part. -/
import Derived.Test.YtbladcgdbhogcabDoorN11e
import Derived.Test.YtbladcgdbhogcabDoorN11c
namespace Go.Proofs.YtbladcgdbhogcabDoor
open Go.ChangeShapes Go.WideShapes Go.ChangeAt Go.RowKit
set_option linter.unusedSimpArgs false
set_option linter.unusedVariables false

theorem alloc_int11 (w : World) : (Instr.alloc 3 true (.tuple #[])).run Tryd.prog w = .ok (.pointer (some ⟨w.heap.size, 0, none⟩)) (w.alloc (.cells (([0] : List Int).map (Value.int .i64)).toArray 3)) := by kernel_rfl
theorem fw_facts (l : Nat) (hl : l < 7) : ∃ h m h2 : Nat, h = 2 ^ (7 - l) ∧ m = 2 ^ l ∧ h2 = 2 ^ (7 - (l + 1)) ∧ Int.tdiv 128 (h : Int) = (m : Int) ∧ IntKind.i64.wrap (m : Int) = (m : Int) ∧ ((h : Int) == 0) = false ∧ Int.tdiv (h : Int) 2 = (h2 : Int) ∧ IntKind.i64.wrap (h2 : Int) = (h2 : Int) ∧ decide (1 < (h : Int)) = true ∧ (1 : Int) < h ∧ h2 < h ∧ 256 / (2 * h) = m ∧ 2 * m ≤ 128 ∧ Hf h := by
  refine ⟨_, _, _, rfl, rfl, rfl, ?_⟩
  unfold Hf
  have : l = 0 ∨ l = 1 ∨ l = 2 ∨ l = 3 ∨ l = 4 ∨ l = 5 ∨ l = 6 := by omega
  rcases this with rfl | rfl | rfl | rfl | rfl | rfl | rfl <;> decide

set_option maxHeartbeats 1000000 in
theorem cfwd_any (m b g : Nat) (h : m + b < 128) (w : World) (hT : PwT w) (r : RowAt .i64 3 g 1 [(m : Int)] w) :
    Calls Tryd.prog 18 #[.int .i64 (b : Int), .pointer (some ⟨g, 0, none⟩)] w fun e w' => e = .returned (.int .i64 (((zt (m + b)).val : Nat) : Int)) ∧ Below w.heap.size w w' := by
  have hc := r.cell (j := 0) (by simp)
  simp only [List.getD_cons_zero] at hc
  obtain ⟨k, hk⟩ : ∃ k : Nat, k = m + b := ⟨_, rfl⟩
  have x1 : IntKind.i64.wrap ((m : Int) + (b : Int)) = (k : Int) := by rw [IntWalk.i64_in _ (by omega)]; omega
  have HK : Hid (k = m + b) := hk
  have HT : Hid (PwT w) := hT
  have HL : Hid (k < 128) := by show _ < _; omega
  clear hk r hT h
  go_enter Tryd.func18, Tryd.ntmps18
  go_wp2_with fail
  refine (zzetaF k HL.out _ HT.out).mono ?_
  rintro e w1 ⟨rfl, rfl⟩
  go_wp2
  go_ret
  exact ⟨retZ (by rw [HK.out]), Below.refl _ _⟩

set_option maxRecDepth 100000 in
set_option maxHeartbeats 4000000 in
theorem nforward_any (A : Array Value) (F : Nat → Int) (hF : Po F) (hA : A = ((gI F).map (Value.int .i64)).toArray) (w : World) (hT : PwT w) :
    Calls Tryd.prog 8 #[.agg A] w fun e w' => e = .returned (poV (fwd (rF F))) ∧ Below w.heap.size w w' := by
  have HF : Hid (Po F) := hF
  have HT : Hid (PwT w) := hT
  have hmf : ∀ (fn : Fn) (first cap : Array Value) (w : World), (Instr.makeFunc fn first cap).run Tryd.prog w = .ok (.func fn first cap) w := fun _ _ _ _ => rfl
  clear hF hT
  go_enter Tryd.func8, Tryd.ntmps8
  go_wp2_with (refine wpList_box_row (k := .i64) rfl 24 _ rfl (gI F) (by rw [← hA]; rfl) (gI_ne _) (poMax _) ?_)
  intro w1 ra b1 s1
  rw [gI_length] at ra
  have hbw := b1
  have n1 : w.heap.size < w1.heap.size := by have := s1.out; omega
  clear b1 s1 hA
  go_wp2_with (refine wpList_alloc_row (k := .i64) rfl 24 rfl (gI fun _ => 0) (alloc_poA _) (gI_ne _) (poMax _) ?_)
  intro w2 rz b2 s2
  rw [gI_length] at rz
  replace ra := ra.kept b2
  replace hbw := stepB hbw b2
  have n2 : w1.heap.size < w2.heap.size := by have := s2.out; omega
  clear b2 s2
  go_wp2_with (refine wpList_load_row rfl 24 _ rfl rfl ra _ Tryd.underlying24 rfl (poInfoA _) ?_)
  refine (ncleaned_any _ F HF.out rfl _).mono ?_
  rintro e w3 ⟨rfl, b3⟩
  replace rz := rz.kept b3
  replace hbw := stepB hbw b3
  have n3 := b3.size
  clear b3 ra
  obtain ⟨f, hf⟩ : ∃ f : Nat → FZ, f = rF F := ⟨_, rfl⟩
  rw [← hf]
  have HFF : Hid (f = rF F) := hf
  clear hf
  go_wp2_with (refine wpList_alloc_row (k := .i64) rfl 24 rfl (gI fun _ => 0) (alloc_poA _) (gI_ne _) (poMax _) ?_)
  intro w4 ro b4 s4
  rw [gI_length] at ro
  replace rz := rz.kept b4
  replace hbw := stepB hbw b4
  have n4 : w3.heap.size < w4.heap.size := by have := s4.out; omega
  clear b4 s4
  go_wp2_with (refine wpList_store_row rfl 24 _ _ rfl (gI (fzF f)) rfl rfl ro (by rw [gI_length, gI_length]) (poInfoA _) ?_)
  intro w5 r5 hw5
  replace rz := rz.wrote hw5 (by omega)
  replace hbw := hw5.below _ _ (by omega) hbw
  rw [show gI (fzF f) = gI (fzF (stg f 0)) from fz_congr fun k hk => (stg_first f k hk).symm] at r5
  have hlt3 : w3.heap.size ≠ w1.heap.size ∧ w.heap.size ≤ w3.heap.size ∧ w.heap.size ≤ w1.heap.size := by omega
  have HNE : Hid _ := hlt3
  clear hw5 ro n1 n2 n3 n4 hlt3
  go_wp2
  go_loopw [4] (fun hv wx => ∃ (l h : Nat), l ≤ 7 ∧ Hid (h = 2 ^ (7 - l)) ∧ hv = .int .i64 (h : Int) ∧ RowAt .i64 24 w3.heap.size 256 (gI (fzF (stg f l))) wx ∧ RowAt .i64 24 w1.heap.size 256 (gI fun _ => 0) wx ∧ Below w.heap.size w wx) (fun hv _ => (intOf hv).toNat)
  case atStart => exact ⟨0, 128, by omega, (by show _ = _; rfl), rfl, r5, rz, hbw⟩
  case round =>
    obtain ⟨l, h, hl, HHL, rfl, ro, rx, hbx⟩ := hrel
    clear r5 rz hbw
    by_cases hlt : l < 7
    · obtain ⟨h', m, h2, e1, e2, e3, x1, x2, x3, x4, x5, x6, x7, x8, x9, x10, x11⟩ := fw_facts l hlt
      have he : h' = h := by rw [e1]; exact HHL.out.symm
      subst he
      have HM : Hid (m = 2 ^ l) := e2
      have HH2 : Hid (h2 = 2 ^ (7 - (l + 1))) := e3
      have H9 : Hid (256 / (2 * h') = m) := x9
      have H10 : Hid (2 * m ≤ 128) := x10
      have H11 : Hid (Hf h') := x11
      clear e1 e2 e3 x9 x10 x11
      have no := ro.lt
      have nx := rx.lt
      go_wp2_with (refine wpList_alloc_row (k := .i64) rfl 3 rfl [0] (alloc_int11 _) (by decide) (by decide) ?_)
      intro w6 ri b6 s6
      replace ro := ro.kept b6
      replace rx := rx.kept b6
      have hsz := hbx.size
      replace hbx := stepB hbx b6
      have n6 : wr.heap.size < w6.heap.size := by have := s6.out; omega
      clear b6 s6
      go_wp2_with (refine wpList_store_int rfl _ _ rfl rfl (m : Int) rfl ri (by decide) ?_)
      intro w7 ri7 hw7
      replace ri7 : RowAt .i64 3 wr.heap.size 1 [(m : Int)] w7 := ri7
      replace ro := ro.wrote hw7 (by omega)
      replace rx := rx.wrote hw7 (by omega)
      replace hbx := hw7.below _ _ (by omega) hbx
      have hsm : w.heap.size ≤ w3.heap.size := HNE.out.2.1
      have hne : w1.heap.size ≠ w3.heap.size := fun e => HNE.out.1 e.symm
      have HS1 : Hid (w.heap.size ≤ w3.heap.size ∧ w1.heap.size ≠ w3.heap.size) := ⟨hsm, hne⟩
      clear hw7 ri n6 no nx hsz hsm hne
      go_wp2_with (refine wpList_load_row rfl 24 _ rfl rfl ro _ Tryd.underlying24 rfl (poInfoA _) ?_)
      refine (crossed_any 18 20 _ _ (stg f l) rfl h' H11.out (fun b => zt (m + b)) sp1 sp2 _ (enters_by Tryd.func18 (by kernel_rfl) rfl) (enters_by Tryd.func20 (by kernel_rfl) rfl)
        (fun b hb W hW => by rw [app1]; exact cfwd_any m b _ (by have := H9.out; have := H10.out; omega) W ((HT.out.kept hbx).kept hW) (ri7.kept hW)) (fun z a b W => split_any z a b W)).mono ?_
      rintro e w8 ⟨rfl, b8⟩
      replace ro := ro.kept b8
      replace rx := rx.kept b8
      replace hbx := stepB hbx b8
      clear b8 ri7
      go_wp2_with (refine wpList_store_row rfl 24 _ _ rfl (gI (fzF (xg h' (fun b => zt (m + b)) sp1 sp2 (stg f l)))) rfl rfl ro (by rw [gI_length, gI_length]) (poInfoA _) ?_)
      intro w9 r9 hw9
      replace rx := rx.wrote hw9 HS1.out.2
      replace hbx := hw9.below _ _ HS1.out.1 hbx
      have HX : Hid (gI (fzF (xg h' (fun b => zt (m + b)) sp1 sp2 (stg f l))) = gI (fzF (stg f (l + 1)))) := by
        show _ = _
        rw [HHL.out, HM.out]
        exact fz_congr fun k hk => xg_fwd f l k hlt hk
      rw [HX.out] at r9
      clear hw9 ro HX
      go_wp2
      go_roundw
      case rel => exact ⟨l + 1, h2, by omega, HH2, by go_num, r9, rx, hbx⟩
      case measure => simp [intOf] <;> omega
    · have hl7 : l = 7 := by omega
      have hh1 : h = 1 := by have := HHL.out; rw [hl7] at this; exact this
      have hd : decide (1 < (h : Int)) = false := by rw [hh1]; decide
      have hdI : (h : Int) ≤ 1 := by omega
      have HE : Hid (gI (fzF (stg f l)) = gI (fzF (fwd f))) := by
        show _ = _
        rw [hl7]
        exact fz_congr fun k hk => stg_last f k hk
      rw [HE.out] at ro
      clear hl7 hh1
      go_wp2_with (first | refine wpList_load_row rfl 24 _ rfl rfl ro _ Tryd.underlying24 rfl (poInfoA _) ?_ | (refine wpList_store_row rfl 24 _ _ rfl (gI (fzF (fwd f))) rfl rfl rx (by rw [gI_length, gI_length]) (poInfoA _) ?_; intro w7 r7 hw7))
      refine bodyPost_row (k := .i64) rfl rfl rfl r7 Tryd.underlying24 rfl (poInfoA _) ?_
      exact ⟨by rw [HFF.out], hw7.below _ _ HNE.out.2.2 hbx⟩
end Go.Proofs.YtbladcgdbhogcabDoor
