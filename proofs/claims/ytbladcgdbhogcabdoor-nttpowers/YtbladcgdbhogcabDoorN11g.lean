/- The polynomial that is so by its factors: contracts of package ntt, seventh part. -/
import Derived.Test.YtbladcgdbhogcabDoorN11f
namespace Go.Proofs.YtbladcgdbhogcabDoor
open Go.ChangeShapes Go.WideShapes Go.ChangeAt Go.RowKit
set_option linter.unusedSimpArgs false
set_option linter.unusedVariables false

theorem iv_facts (u : Nat) (hu : u < 7) : ∃ h q m h2 : Nat, h = 2 ^ (u + 1) ∧ q = 2 ^ (7 - u) ∧ m = 2 ^ (7 - u) - 1 ∧ h2 = 2 ^ (u + 1 + 1) ∧ Int.tdiv 256 (h : Int) = (q : Int) ∧ IntKind.i64.wrap (q : Int) = (q : Int) ∧ IntKind.i64.wrap ((q : Int) - 1) = (m : Int) ∧ ((h : Int) == 0) = false ∧ IntKind.i64.wrap ((h : Int) * 2) = (h2 : Int) ∧ decide ((h : Int) < 256) = true ∧ (h : Int) < 256 ∧ h < h2 ∧ 256 / (2 * h) ≤ m ∧ m < 128 ∧ Hf h ∧ ¬ h = 0 ∧ (1 : Int) < (h : Int) := by
  refine ⟨_, _, _, _, rfl, rfl, rfl, rfl, ?_⟩
  unfold Hf
  have : u = 0 ∨ u = 1 ∨ u = 2 ∨ u = 3 ∨ u = 4 ∨ u = 5 ∨ u = 6 := by omega
  rcases this with rfl | rfl | rfl | rfl | rfl | rfl | rfl <;> decide
/-- What is under way on the way back. -/
def bkF (f : Nat → FZ) (u p : Nat) : FZ := pz 2 u * stg f (7 - u) p
theorem bkF_start (g : Nat → FZ) (p : Nat) (hp : p < 256) : bkF (inw g) 0 p = g p := by
  show pz 2 0 * stg (inw g) 7 p = g p
  rw [stg_last _ _ hp, fwd_inw g p hp]
  show (1 : FZ) * g p = g p
  grind -lia
theorem bkF_step (f : Nat → FZ) (u p : Nat) (hu : u < 7) (hp : p < 256) : xg (2 ^ (u + 1)) (fun b => zt (2 ^ (7 - u) - 1 - b)) jn1 jn2 (bkF f u) p = bkF f (u + 1) p := by
  have h := xg_inv f (pz 2 u) (6 - u) p (by omega) hp
  rw [show 7 - (6 - u) = u + 1 by omega, show 6 - u + 1 = 7 - u by omega] at h
  show xg (2 ^ (u + 1)) (fun b => zt (2 ^ (7 - u) - 1 - b)) jn1 jn2 (fun p => pz 2 u * stg f (7 - u) p) p = pz 2 (u + 1) * stg f (7 - (u + 1)) p
  rw [h, show 7 - (u + 1) = 6 - u by omega, pz_succ]
  grind -lia
theorem bkF_end (g : Nat → FZ) (p : Nat) (hp : p < 256) : 3303 * bkF (inw g) 7 p = inw g p := by
  have h := inv_end g p hp
  rw [show (128 : FZ) = pz 2 7 by decide] at h
  exact h

set_option maxHeartbeats 1000000 in
theorem cinv_any (m b g : Nat) (h : b ≤ m) (hm : m < 128) (w : World) (hT : PwT w) (r : RowAt .i64 3 g 1 [(m : Int)] w) :
    Calls Tryd.prog 23 #[.int .i64 (b : Int), .pointer (some ⟨g, 0, none⟩)] w fun e w' => e = .returned (.int .i64 (((zt (m - b)).val : Nat) : Int)) ∧ Below w.heap.size w w' := by
  have hc := r.cell (j := 0) (by simp)
  simp only [List.getD_cons_zero] at hc
  obtain ⟨k, hk⟩ : ∃ k : Nat, k = m - b := ⟨_, rfl⟩
  have x1 : IntKind.i64.wrap ((m : Int) - (b : Int)) = (k : Int) := by rw [IntWalk.i64_in _ (by omega)]; omega
  have HK : Hid (k = m - b) := hk
  have HT : Hid (PwT w) := hT
  have HL : Hid (k < 128) := by show _ < _; omega
  clear hk r hT h hm
  go_enter Tryd.func23, Tryd.ntmps23
  go_wp2_with fail
  refine (zzetaF k HL.out _ HT.out).mono ?_
  rintro e w1 ⟨rfl, rfl⟩
  go_wp2
  go_ret
  exact ⟨retZ (by rw [HK.out]), Below.refl _ _⟩
set_option maxHeartbeats 1000000 in
theorem cshare_any (f : Nat → FZ) (g : Nat) (i : Nat) (hi : i < 256) (w : World) (r : RowAt .i64 24 g 256 (gI (fzF f)) w) :
    Calls Tryd.prog 26 #[.int .i64 (i : Int), .pointer (some ⟨g, 0, none⟩)] w fun e w' => e = .returned (.int .i64 (((3303 * f i).val : Nat) : Int)) ∧ Below w.heap.size w w' := by
  have hc := r.cell (j := i) (by rw [gI_length]; exact hi)
  rw [gI_get _ hi] at hc
  unfold fzF at hc
  have hiI : (i : Int) < 256 := by omega
  have HE : Hid (ni 3303 * ni (((f i).val : Nat) : Int) = 3303 * f i) := by show _ = _; rw [ni_fz]; rfl
  clear r
  go_enter Tryd.func26, Tryd.ntmps26
  go_wp2_with fail
  refine (zmulF 3303 _ ⟨by omega, by omega⟩ (in64_fz (f i)) _).mono ?_
  rintro e w1 ⟨rfl, rfl⟩
  go_wp2
  go_ret
  exact ⟨retZ (by rw [HE.out]), Below.refl _ _⟩

set_option maxRecDepth 100000 in
set_option maxHeartbeats 4000000 in
theorem ninverse_any (A : Array Value) (F : Nat → Int) (hF : Po F) (hA : A = ((gI F).map (Value.int .i64)).toArray) (w : World) (hT : PwT w) :
    Calls Tryd.prog 10 #[.agg A] w fun e w' => e = .returned (poV (inw (rF F))) ∧ Below w.heap.size w w' := by
  have HF : Hid (Po F) := hF
  have HT : Hid (PwT w) := hT
  have hmf : ∀ (fn : Fn) (first cap : Array Value) (w : World), (Instr.makeFunc fn first cap).run Tryd.prog w = .ok (.func fn first cap) w := fun _ _ _ _ => rfl
  clear hF hT
  go_enter Tryd.func10, Tryd.ntmps10
  go_wp2_with (refine wpList_box_row (k := .i64) rfl 24 _ rfl (gI F) (by rw [← hA]; rfl) (gI_ne _) (poMax _) ?_)
  intro w1 ra b1 s1
  rw [gI_length] at ra
  have hbw := b1
  have n1 : w.heap.size < w1.heap.size := by have := s1.out; omega
  clear b1 s1 hA
  go_wp2_with (refine wpList_alloc_row (k := .i64) rfl 24 rfl (gI fun _ => 0) (alloc_poA _) (gI_ne _) (poMax _) ?_)
  intro w2 rz b2 s2
  rw [gI_length] at rz
  replace ra := ra.kept b2
  replace hbw := stepB hbw b2
  have n2 : w1.heap.size < w2.heap.size := by have := s2.out; omega
  clear b2 s2
  go_wp2_with (refine wpList_load_row rfl 24 _ rfl rfl ra _ Tryd.underlying24 rfl (poInfoA _) ?_)
  refine (ncleaned_any _ F HF.out rfl _).mono ?_
  rintro e w3 ⟨rfl, b3⟩
  replace rz := rz.kept b3
  replace hbw := stepB hbw b3
  have n3 := b3.size
  clear b3 ra
  obtain ⟨f, hf⟩ : ∃ f : Nat → FZ, f = rF F := ⟨_, rfl⟩
  rw [← hf]
  have HFF : Hid (f = rF F) := hf
  clear hf
  go_wp2_with (refine wpList_alloc_row (k := .i64) rfl 24 rfl (gI fun _ => 0) (alloc_poA _) (gI_ne _) (poMax _) ?_)
  intro w4 ro b4 s4
  rw [gI_length] at ro
  replace rz := rz.kept b4
  replace hbw := stepB hbw b4
  have n4 : w3.heap.size < w4.heap.size := by have := s4.out; omega
  clear b4 s4
  go_wp2_with (refine wpList_store_row rfl 24 _ _ rfl (gI (fzF f)) rfl rfl ro (by rw [gI_length, gI_length]) (poInfoA _) ?_)
  intro w5 r5 hw5
  replace rz := rz.wrote hw5 (by omega)
  replace hbw := hw5.below _ _ (by omega) hbw
  rw [show gI (fzF f) = gI (fzF (bkF (inw f) 0)) from fz_congr fun k hk => (bkF_start f k hk).symm] at r5
  have hlt3 : w3.heap.size ≠ w1.heap.size ∧ w.heap.size ≤ w3.heap.size ∧ w.heap.size ≤ w1.heap.size := by omega
  have HNE : Hid _ := hlt3
  clear hw5 ro n1 n2 n3 n4 hlt3
  go_wp2
  go_loopw [4] (fun hv wx => ∃ (u h : Nat), u ≤ 7 ∧ Hid (h = 2 ^ (u + 1)) ∧ hv = .int .i64 (h : Int) ∧ RowAt .i64 24 w3.heap.size 256 (gI (fzF (bkF (inw f) u))) wx ∧ RowAt .i64 24 w1.heap.size 256 (gI fun _ => 0) wx ∧ Below w.heap.size w wx) (fun hv _ => 256 - (intOf hv).toNat)
  case atStart => exact ⟨0, 2, by omega, (by show _ = _; rfl), rfl, r5, rz, hbw⟩
  case round =>
    obtain ⟨u, h, hu, HHL, rfl, ro, rx, hbx⟩ := hrel
    clear r5 rz hbw
    by_cases hlt : u < 7
    · obtain ⟨h', q, m, h2, e1, e0, e2, e3, x1, x2, x2b, x3, x4, x6, x7, x8, x9, x10, x11, x12, x13⟩ := iv_facts u hlt
      have he : h' = h := by rw [e1]; exact HHL.out.symm
      subst he
      have HM : Hid (m = 2 ^ (7 - u) - 1) := e2
      have HH2 : Hid (h2 = 2 ^ (u + 1 + 1)) := e3
      have H9 : Hid (256 / (2 * h') ≤ m) := x9
      have H10 : Hid (m < 128) := x10
      have H11 : Hid (Hf h') := x11
      clear e0 e1 e2 e3 x9 x10 x11
      have no := ro.lt
      have nx := rx.lt
      go_wp2_with (refine wpList_alloc_row (k := .i64) rfl 3 rfl [0] (alloc_int11 _) (by decide) (by decide) ?_)
      intro w6 ri b6 s6
      replace ro := ro.kept b6
      replace rx := rx.kept b6
      have hsz := hbx.size
      replace hbx := stepB hbx b6
      have n6 : wr.heap.size < w6.heap.size := by have := s6.out; omega
      clear b6 s6
      go_wp2_with (refine wpList_store_int rfl _ _ rfl rfl (m : Int) rfl ri (by decide) ?_)
      intro w7 ri7 hw7
      replace ri7 : RowAt .i64 3 wr.heap.size 1 [(m : Int)] w7 := ri7
      replace ro := ro.wrote hw7 (by omega)
      replace rx := rx.wrote hw7 (by omega)
      replace hbx := hw7.below _ _ (by omega) hbx
      have hsm : w.heap.size ≤ w3.heap.size := HNE.out.2.1
      have hne : w1.heap.size ≠ w3.heap.size := fun e => HNE.out.1 e.symm
      have HS1 : Hid (w.heap.size ≤ w3.heap.size ∧ w1.heap.size ≠ w3.heap.size) := ⟨hsm, hne⟩
      clear hw7 ri n6 no nx hsz hsm hne
      go_wp2_with (refine wpList_load_row rfl 24 _ rfl rfl ro _ Tryd.underlying24 rfl (poInfoA _) ?_)
      refine (crossed_any 23 24 _ _ (bkF (inw f) u) rfl h' H11.out (fun b => zt (m - b)) jn1 jn2 _ (enters_by Tryd.func23 (by kernel_rfl) rfl) (enters_by Tryd.func24 (by kernel_rfl) rfl)
        (fun b hb W hW => by rw [app1]; exact cinv_any m b _ (by have := H9.out; omega) H10.out W ((HT.out.kept hbx).kept hW) (ri7.kept hW)) (fun z a b W => join_two z a b W)).mono ?_
      rintro e w8 ⟨rfl, b8⟩
      replace ro := ro.kept b8
      replace rx := rx.kept b8
      replace hbx := stepB hbx b8
      clear b8 ri7
      go_wp2_with (refine wpList_store_row rfl 24 _ _ rfl (gI (fzF (xg h' (fun b => zt (m - b)) jn1 jn2 (bkF (inw f) u)))) rfl rfl ro (by rw [gI_length, gI_length]) (poInfoA _) ?_)
      intro w9 r9 hw9
      replace rx := rx.wrote hw9 HS1.out.2
      replace hbx := hw9.below _ _ HS1.out.1 hbx
      have HX : Hid (gI (fzF (xg h' (fun b => zt (m - b)) jn1 jn2 (bkF (inw f) u))) = gI (fzF (bkF (inw f) (u + 1)))) := by
        show _ = _
        rw [HHL.out, HM.out]
        exact fz_congr fun k hk => bkF_step (inw f) u k hlt hk
      rw [HX.out] at r9
      clear hw9 ro HX
      go_wp2
      go_roundw
      case rel => exact ⟨u + 1, h2, by omega, HH2, by go_num, r9, rx, hbx⟩
      case measure => simp [intOf] <;> omega
    · have hl7 : u = 7 := by omega
      have hh1 : h = 256 := by have := HHL.out; rw [hl7] at this; exact this
      have hd : decide ((h : Int) < 256) = false := by rw [hh1]; decide
      have hdI : (256 : Int) ≤ (h : Int) := by omega
      rw [hl7] at ro
      clear hl7 hh1
      go_wp2_with fail
      refine (placed_any 26 _ (fun k => 3303 * bkF (inw f) 7 k) _ (enters_by Tryd.func26 (by kernel_rfl) rfl) fun i hi W hW => by rw [app1]; exact cshare_any (bkF (inw f) 7) _ i hi W (ro.kept hW)).mono ?_
      rintro e w6 ⟨rfl, b6⟩
      replace rx := rx.kept b6
      replace hbx := stepB hbx b6
      clear b6 ro
      have HE : Hid (gI (fzF fun k => 3303 * bkF (inw f) 7 k) = gI (fzF (inw f))) := by
        show _ = _
        exact fz_congr fun k hk => bkF_end f k hk
      have HP : Hid (poV (fun k => 3303 * bkF (inw f) 7 k) = poV (inw f)) := by
        show Value.agg _ = Value.agg _
        rw [HE.out]
      rw [HP.out]
      go_wp2_with (refine wpList_store_row rfl 24 _ _ rfl (gI (fzF (inw f))) rfl rfl rx (by rw [gI_length, gI_length]) (poInfoA _) ?_; intro w7 r7 hw7)
      refine bodyPost_row (k := .i64) rfl rfl rfl r7 Tryd.underlying24 rfl (poInfoA _) ?_
      exact ⟨by rw [HFF.out], hw7.below _ _ HNE.out.2.2 hbx⟩
end Go.Proofs.YtbladcgdbhogcabDoor
