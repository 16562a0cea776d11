/- The laws of layer 15 stand on working ground: a pattern that is given, and one that may not be. -/
import Derived.Test.YtpoibhhijidobabGreatDoorQd
import Derived.Test.YtpoibhhijidobabGreatDoorQc
import Derived.Test.YtpoibhhijidobabGreatDoorQb
import Derived.Test.YtpoibhhijidobabGreatDoorQa
namespace Go.Proofs.YtpoibhhijidobabGreatDoor
open Go.ChangeShapes Go.WideShapes Go.ChangeAt Go.RowKit
set_option linter.unusedSimpArgs false
set_option linter.unusedVariables false

theorem ckA_eq (p : Ptn) : ckA p = ckP p := by
  unfold ckA ckP
  by_cases h : wrB p = true
  · rw [if_pos h, if_pos h]
    have := ck_all p (PtS.of h)
    unfold tnB
    rw [this]
  · rw [if_neg h, if_neg h]
theorem nm_len {p : Ptn} (h : wrB p = true) : p.name.length ≤ 32 := by
  unfold wrB nmB at h
  simp only [Bool.and_eq_true, decide_eq_true_eq] at h
  exact h.1.1.1.1.2
/-- The pattern XX, and all that the laws ask of it. -/
theorem xx_facts : ∃ p : Ptn, gvG [88, 88] gvL = (txT p, true) ∧ psQ (txT p) = (p, 0) ∧ ckA p = 0 ∧ hyB p = true ∧ p.n = 4 ∧ drB p true true [] = true ∧ p.name.length ≤ maxLen ∧ (txT p).length ≤ maxLen := by
  obtain ⟨p, h1, h2, h3, h4, h5, h6, h7⟩ := gv_at 5 (by decide)
  have e5 : txT p = gvT5 := (Option.some.inj h5).symm
  have ep : p = ⟨gvN5, false, false, [(true, [1, 8]), (false, [9, 1, 3, 2, 4]), (true, [10, 2, 5]), (false, [10])]⟩ := (Option.some.inj h1).symm
  refine ⟨p, ?_, ?_, ?_, h4, ?_, ?_, ?_, ?_⟩
  · rw [e5]; decide +kernel
  · rw [psQ_eq]; exact h7
  · rw [ckA_eq]; exact h3
  · rw [ep]; rfl
  · rw [ep]; decide +kernel
  · have := nm_len h2; unfold maxLen; omega
  · rw [e5]; decide +kernel
/-- A pattern that may not be. -/
theorem ee_facts : ∃ p : Ptn, psQ [88, 58, 10, 45, 62, 32, 101, 101] = (p, 0) ∧ ckA p = 21 ∧ hyB p = false ∧ (seL p).length = 1 ∧ p.name.length ≤ maxLen := by
  refine ⟨exP, ?_, ?_, ex_facts.2.2.1, ?_, by decide⟩
  · rw [psQ_eq]; exact ex_read
  · rw [ckA_eq]; exact ex_check
  · have := ex_facts.2.2.2
    rw [sec_eq, List.length_map] at this
    exact this
/-- What Parse answers is small. -/
theorem ps_small (s : List UInt8) : (psQ s).1.name.length ≤ 32 ∧ (psQ s).1.n ≤ 8 ∧ ∀ k, ((psQ s).1.tk k).length ≤ 12 := by
  rw [psQ_eq]
  rcases psA_wr s with ⟨-, h⟩ | ⟨-, h⟩
  rotate_left
  · rw [h]; exact ⟨by decide, by decide, fun k => by simp [zeP, Ptn.tk]⟩
  · have hp := PtS.of h
    refine ⟨nm_len h, hp.n, fun k => ?_⟩
    by_cases hk : k < (psA s).1.n
    · exact hp.t k hk
    · unfold Ptn.n at hk
      unfold Ptn.tk
      simp [List.getD, List.getElem?_eq_none (show (psA s).1.ms.length ≤ k by omega)]
theorem KyR.nil (w : World) : KyR w (.slice none 0 0) [] := ⟨none, 0, rfl, Nat.le_refl _, Nat.zero_le _, .inl rfl⟩
theorem paOne (p : Ptn) {w : World} {vm : Value} (h : MsR w vm p) : (paC p vm).toArray.all (·.oneCell') = true := by
  obtain ⟨a, c, rfl, -⟩ := h.form
  exact all_oneCell_toArray (by intro u hu; simp only [paC, List.mem_cons, List.mem_nil_iff, or_false] at hu; rcases hu with rfl | rfl | rfl | rfl <;> rfl)
set_option maxRecDepth 100000 in
set_option maxHeartbeats 8000000 in
theorem awake_any (w : World) (hT : TkT w) : Calls Tryz.prog 7 #[] w fun e w' => e = .returned (.bool true) ∧ Below w.heap.size w w' := by
  have HT : Hid (TkT w) := hT
  clear hT
  obtain ⟨p, hp1, hp2, hp3, hp4, hp5, hp6, hp7, hp8⟩ := xx_facts
  obtain ⟨q, hq1, hq2, hq3, hq4, hq5⟩ := ee_facts
  have HP : Hid (psQ (txT p) = (p, 0) ∧ ckA p = 0 ∧ hyB p = true ∧ p.n = 4 ∧ drB p true true [] = true ∧ p.name.length ≤ maxLen ∧ (txT p).length ≤ maxLen) := ⟨hp2, hp3, hp4, hp5, hp6, hp7, hp8⟩
  have HQ : Hid (psQ [88, 58, 10, 45, 62, 32, 101, 101] = (q, 0) ∧ ckA q = 21 ∧ hyB q = false ∧ (seL q).length = 1 ∧ q.name.length ≤ maxLen) := ⟨hq1, hq2, hq3, hq4, hq5⟩
  have HG : Hid (gvG [88, 88] gvL = (txT p, true)) := hp1
  clear hp1 hp2 hp3 hp4 hp5 hp6 hp7 hp8 hq1 hq2 hq3 hq4 hq5
  go_enter Tryz.func7, Tryz.ntmps7
  go_wp2_with fail
  refine (given_any [88, 88] _).mono ?_
  rintro e w1 ⟨rfl, b1⟩
  rw [HG.out]
  dsimp only
  obtain ⟨SB, hSB⟩ : ∃ B : ByteArray, B = ⟨(txT p).toArray⟩ := ⟨_, rfl⟩
  have HS : Hid (SB = ⟨(txT p).toArray⟩) := hSB
  rw [← hSB]
  clear hSB
  go_wp2_with fail
  rw [HS.out]
  refine (parse_any (txT p) HP.out.2.2.2.2.2.2 _ (HT.out.kept b1)).mono ?_
  rw [← HS.out, HP.out.1]
  rintro e w2 ⟨vm, rfl, hm, b2⟩
  dsimp only at hm ⊢
  replace b2 := stepB b1 b2
  clear b1
  obtain ⟨am, cm, em, hl, hmx, -⟩ := id hm.form
  rw [HP.out.2.2.2.1] at em hl
  subst em
  go_wp2_with (refine wpList_alloc_blk rfl 25 rfl (paC zeP (.slice none 0 0)) (allocPa _) ?_)
  intro w3 r3 b3 s3
  go_wp2_with (refine wpList_store_part rfl 25 _ _ rfl rfl (paC p (.slice am 4 cm)) rfl [] (paC zeP (.slice none 0 0)) [] (paC p (.slice am 4 cm)) r3 (whole15 _) (whole15 _) rfl rfl (paInfo zeP (.slice none 0 0)) (paC_all _ _ _ _) ?_)
  intro w4 r4 hw4
  have b4 := hw4.below _ _ (Nat.le_refl _) b3
  have HR1 : Hid (BlkAt w2.heap.size 25 (paC p (.slice am 4 cm)) w4) := r4
  have HM1 : Hid (MsR w4 (.slice am 4 cm) p) := hm.kept b4
  have hbw := stepB b2 b4
  clear r3 b3 s3 r4 hw4 b4 b2 hm
  go_wp2_with fail
  refine (parse_any [88, 58, 10, 45, 62, 32, 101, 101] (by decide) _ (HT.out.kept hbw)).mono ?_
  rw [HQ.out.1]
  rintro e w5 ⟨vq, rfl, hq, b5⟩
  dsimp only at hq ⊢
  obtain ⟨aq, nq, cq, eq⟩ : ∃ a n c, vq = .slice a n c := by obtain ⟨a, c, e, -⟩ := hq.form; exact ⟨a, _, c, e⟩
  have HVq : Hid (vq = .slice aq nq cq) := eq
  clear eq
  go_wp2_with (refine wpList_alloc_blk rfl 25 rfl (paC zeP (.slice none 0 0)) (allocPa _) ?_)
  intro w6 r6 b6 s6
  go_wp2_with (refine wpList_store_part rfl 25 _ _ rfl rfl (paC q vq) rfl [] (paC zeP (.slice none 0 0)) [] (paC q vq) r6 (whole15 _) (whole15 _) rfl rfl (paInfo zeP (.slice none 0 0)) (by rw [HVq.out]; exact paC_all _ _ _ _) ?_)
  intro w7 r7 hw7
  have b7 := hw7.below _ _ (Nat.le_refl _) b6
  have HR2 : Hid (BlkAt w5.heap.size 25 (paC q vq) w7) := r7
  have HM2 : Hid (MsR w7 vq q) := hq.kept b7
  replace b7 := stepB b5 b7
  replace HR1 : Hid (BlkAt w2.heap.size 25 (paC p (.slice am 4 cm)) w7) := HR1.out.kept b7
  replace HM1 : Hid (MsR w7 (.slice am 4 cm) p) := HM1.out.kept b7
  replace hbw := stepB hbw b7
  clear r6 b6 s6 r7 hw7 b7 b5 hq
  have c3 : w7.cell? ⟨w2.heap.size, 3, none⟩ = some (.slice am 4 cm) := HR1.out.cell 3
  go_wp2_with (refine wpList_loadG 25 _ rfl rfl (paC p (.slice am 4 cm)) HR1.out Tryz.underlying25 rfl (paInfo p _) (by go_simp; done) ?_)
  refine (check_any p _ _ rfl HP.out.2.2.2.2.2.1 _ HM1.out).mono ?_
  rintro e w8 ⟨rfl, b8⟩
  rw [HP.out.2.1]
  clear c3
  replace HR1 : Hid (BlkAt w2.heap.size 25 (paC p (.slice am 4 cm)) w8) := HR1.out.kept b8
  replace HR2 : Hid (BlkAt w5.heap.size 25 (paC q vq) w8) := HR2.out.kept b8
  replace HM1 : Hid (MsR w8 (.slice am 4 cm) p) := HM1.out.kept b8
  replace HM2 : Hid (MsR w8 vq q) := HM2.out.kept b8
  replace hbw := stepB hbw b8
  clear b8
  have q1 : (SB.toList == SB.toList) = true := by simp
  go_wp2_with (refine wpList_loadG 25 _ rfl rfl (paC p (.slice am 4 cm)) HR1.out Tryz.underlying25 rfl (paInfo p _) (by go_simp; done) ?_)
  refine (text_any p _ _ rfl HP.out.2.2.2.2.2.1 _ HM1.out (HT.out.kept hbw)).mono ?_
  rintro e w9 ⟨rfl, b9⟩
  rw [← HS.out]
  replace HR1 : Hid (BlkAt w2.heap.size 25 (paC p (.slice am 4 cm)) w9) := HR1.out.kept b9
  replace HR2 : Hid (BlkAt w5.heap.size 25 (paC q vq) w9) := HR2.out.kept b9
  replace HM1 : Hid (MsR w9 (.slice am 4 cm) p) := HM1.out.kept b9
  replace HM2 : Hid (MsR w9 vq q) := HM2.out.kept b9
  replace hbw := stepB hbw b9
  clear b9
  go_wp2_with (refine wpList_loadG 25 _ rfl rfl (paC q vq) HR2.out Tryz.underlying25 rfl (paInfo q _) (by go_simp; done) ?_)
  refine (check_any q _ _ rfl HQ.out.2.2.2.2 _ HM2.out).mono ?_
  rintro e w10 ⟨rfl, b10⟩
  rw [HQ.out.2.1]
  replace HR1 : Hid (BlkAt w2.heap.size 25 (paC p (.slice am 4 cm)) w10) := HR1.out.kept b10
  replace HR2 : Hid (BlkAt w5.heap.size 25 (paC q vq) w10) := HR2.out.kept b10
  replace HM1 : Hid (MsR w10 (.slice am 4 cm) p) := HM1.out.kept b10
  replace HM2 : Hid (MsR w10 vq q) := HM2.out.kept b10
  replace hbw := stepB hbw b10
  clear b10
  go_wp2_with (refine wpList_loadG 25 _ rfl rfl (paC p (.slice am 4 cm)) HR1.out Tryz.underlying25 rfl (paInfo p _) (by go_simp; done) ?_)
  refine (hybrid_any p _ _ rfl HP.out.2.2.2.2.2.1 _ HM1.out).mono ?_
  rintro e w11 ⟨rfl, b11⟩
  rw [HP.out.2.2.1]
  replace HR1 : Hid (BlkAt w2.heap.size 25 (paC p (.slice am 4 cm)) w11) := HR1.out.kept b11
  replace HR2 : Hid (BlkAt w5.heap.size 25 (paC q vq) w11) := HR2.out.kept b11
  replace HM1 : Hid (MsR w11 (.slice am 4 cm) p) := HM1.out.kept b11
  replace HM2 : Hid (MsR w11 vq q) := HM2.out.kept b11
  replace hbw := stepB hbw b11
  clear b11
  go_wp2_with (refine wpList_loadG 25 _ rfl rfl (paC q vq) HR2.out Tryz.underlying25 rfl (paInfo q _) (by go_simp; done) ?_)
  refine (hybrid_any q _ _ rfl HQ.out.2.2.2.2 _ HM2.out).mono ?_
  rintro e w12 ⟨rfl, b12⟩
  rw [HQ.out.2.2.1]
  replace HR1 : Hid (BlkAt w2.heap.size 25 (paC p (.slice am 4 cm)) w12) := HR1.out.kept b12
  replace HR2 : Hid (BlkAt w5.heap.size 25 (paC q vq) w12) := HR2.out.kept b12
  replace HM1 : Hid (MsR w12 (.slice am 4 cm) p) := HM1.out.kept b12
  replace HM2 : Hid (MsR w12 vq q) := HM2.out.kept b12
  replace hbw := stepB hbw b12
  clear b12
  go_wp2_with (refine wpList_loadG 25 _ rfl rfl (paC q vq) HR2.out Tryz.underlying25 rfl (paInfo q _) (by go_simp; done) ?_)
  refine (guardsP_any q _ _ rfl HQ.out.2.2.2.2 _ HM2.out).mono ?_
  rintro e w13 ⟨v, vs, rfl, hv, hvl, -, b13⟩
  rw [HQ.out.2.2.2.1] at hvl
  obtain ⟨av, cv, rfl, hv1, hv2, -⟩ := hv
  rw [hvl] at hv1 ⊢
  replace HR1 : Hid (BlkAt w2.heap.size 25 (paC p (.slice am 4 cm)) w13) := HR1.out.kept b13
  replace HR2 : Hid (BlkAt w5.heap.size 25 (paC q vq) w13) := HR2.out.kept b13
  replace HM1 : Hid (MsR w13 (.slice am 4 cm) p) := HM1.out.kept b13
  replace HM2 : Hid (MsR w13 vq q) := HM2.out.kept b13
  replace hbw := stepB hbw b13
  clear b13
  go_wp2_with (refine wpList_loadG 25 _ rfl rfl (paC p (.slice am 4 cm)) HR1.out Tryz.underlying25 rfl (paInfo p _) (by go_simp; done) ?_)
  refine (derivable_any p _ true true [] _ _ rfl HP.out.2.2.2.2.2.1 _ HM1.out (KyR.nil _)).mono ?_
  rintro e w14 ⟨rfl, b14⟩
  rw [HP.out.2.2.2.2.1]
  replace HR1 : Hid (BlkAt w2.heap.size 25 (paC p (.slice am 4 cm)) w14) := HR1.out.kept b14
  replace HR2 : Hid (BlkAt w5.heap.size 25 (paC q vq) w14) := HR2.out.kept b14
  replace HM1 : Hid (MsR w14 (.slice am 4 cm) p) := HM1.out.kept b14
  replace HM2 : Hid (MsR w14 vq q) := HM2.out.kept b14
  replace hbw := stepB hbw b14
  clear b14
  go_wp2_with fail
  refine (names_any _).mono ?_
  rintro e w15 ⟨v, rfl, hO⟩
  have b15 := stepB hbw hO.below
  obtain ⟨a6, c6, rfl, h61, h62⟩ : ∃ a c, v = .slice a 6 c ∧ 6 ≤ c ∧ c ≤ maxLen := by
    obtain ⟨a, c, e, h1, h2, -⟩ := hO.rdC rfl
    exact ⟨a, c, e, h1, h2⟩
  clear hO hbw
  go_wp2
  go_ret
  exact ⟨rfl, b15⟩
end Go.Proofs.YtpoibhhijidobabGreatDoor
