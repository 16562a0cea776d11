/- What the law WireBack answers at every input: the walk. -/
import Derived.Test.YtonnngndknoljaaAw18
import Derived.Test.YtonnngndknoljaaW18Puts
namespace Go.Proofs.Ytonnngndknoljaa
open Go.ChangeShapes Go.WideShapes Go.ChangeAt Go.RowKit
set_option linter.unusedSimpArgs false
set_option linter.unusedVariables false

theorem nil_get : gtP [] = (noPk, 13) := rfl
theorem noPk_w : PkW noPk := ⟨by decide, by decide, by decide, by decide, by decide, by decide, by decide⟩
/-- The packet that was got, and its body under way. -/
structure Bk (W0 : World) (g : Nat) (P : Pkt) (am : Option Addr) (M cm : Nat) (ap : Option Addr) (n cp : Nat) (w : World) : Prop where
  pk : BlkAt g 26 (pkC P (.slice am M cm) (.slice ap n cp)) w
  row : ∃ l : List UInt8, l.length = n ∧ w.ownsRow W0.heap.size 5 1 (.slice ap n cp) l.length (l.map bv)
  below : Below W0.heap.size W0 w

set_option maxRecDepth 100000 in
set_option maxHeartbeats 16000000 in
theorem back18_walk (p : Pkt) (hw : PkW p) (vm vb : Value) (A : Array Value) (hA : A = (pkC p vm vb).toArray) (v : Value) (b : List UInt8) (w : World) (hr : PkR w p vm vb) (hb : Rd w v b) :
    Calls Try.prog 5 #[.agg A, v] w fun e w' => e = .returned (.bool true) ∧ Below w.heap.size w w' := by
  obtain ⟨am, cm, rfl, hcm, hmm, -⟩ := id hr.mac
  obtain ⟨ab, cb, rfl, hcb, hmb, -⟩ := id hr.body
  obtain ⟨av, cv, rfl, hcv, hmv, -⟩ := id hb
  obtain ⟨M, hM⟩ : ∃ n : Nat, n = p.mac.length := ⟨_, rfl⟩
  obtain ⟨n, hn⟩ : ∃ n : Nat, n = p.body.length := ⟨_, rfl⟩
  obtain ⟨L, hL⟩ : ∃ n : Nat, n = b.length := ⟨_, rfl⟩
  rw [← hM, ← hn] at hA hr
  rw [← hL] at hb ⊢
  have HA : Hid (A = (pkC p (.slice am M cm) (.slice ab n cb)).toArray) := hA
  have HR : Hid (PkR w p (.slice am M cm) (.slice ab n cb)) := hr
  have HBr : Hid (Rd w (.slice av L cv) b) := hb
  have HW : Hid (PkW p) := hw
  have HL : Hid (L = b.length) := hL
  have hn2 : n ≤ 9223372036854775807 := by unfold maxLen at hmb; omega
  have hL2 : L ≤ 9223372036854775807 := by unfold maxLen at hmv; omega
  clear hA hr hw hb hM hn hL hcm hmm hcb hmb hcv hmv
  go_enter Try.func5, Try.ntmps5
  go_wp2_with (refine wpList_box_blk rfl 26 _ rfl (pkC p (.slice am M cm) (.slice ab n cb)) (by rw [← HA.out]; rfl) ?_)
  intro w1 r1 b1 s1
  obtain ⟨g, hg⟩ : ∃ n : Nat, n = w.heap.size := ⟨_, rfl⟩
  rw [← hg] at r1 ⊢
  have R1 : Hid (BlkAt g 26 (pkC p (.slice am M cm) (.slice ab n cb)) w1) := r1
  have HB1 : Hid (Below w.heap.size w w1) := b1
  clear r1 b1 s1 hg HA
  go_wp2_with fail
  refine (awake_any _).mono ?_
  rintro e w2 ⟨rfl, b2⟩
  have R2 : Hid (BlkAt g 26 (pkC p (.slice am M cm) (.slice ab n cb)) w2) := R1.out.kept b2
  have HB2 : Hid (Below w.heap.size w w2) := stepB HB1.out b2
  have c8 : w2.cell? ⟨g, 8, none⟩ = some (.slice ab n cb) := R2.out.cell 8
  clear b2 R1 HB1
  by_cases h1 : n ≤ 3000
  rotate_left
  · have d : decide ((3000 : Int) < (n : Int)) = true := decide_eq_true (by omega)
    clear h1
    go_wp2
    go_ret
    exact ⟨rfl, HB2.out⟩
  have d1 : decide ((3000 : Int) < (n : Int)) = false := decide_eq_false (by omega)
  by_cases h2 : L ≤ 3000
  rotate_left
  · have d : decide ((3000 : Int) < (L : Int)) = true := decide_eq_true (by omega)
    clear h1 h2
    go_wp2
    go_ret
    exact ⟨rfl, HB2.out⟩
  have d2 : decide ((3000 : Int) < (L : Int)) = false := decide_eq_false (by omega)
  have HLe : Hid (b.length ≤ 100000) := (by rw [← HL.out]; omega : b.length ≤ 100000)
  have HR2 : Hid (PkR w2 p (.slice am M cm) (.slice ab n cb)) := HR.out.kept HB2.out
  clear h1 h2 HR
  go_wp2_with (refine wpList_load_part rfl 26 _ rfl rfl [] (pkC p (.slice am M cm) (.slice ab n cb)) [] R2.out (by simp) rfl Try.underlying26 rfl info_wk ?_)
  clear c8 d1 d2
  by_cases hm : mayB p = true
  focus
    refine (wput_any p HW.out hm _ _ _ rfl _ HR2.out).mono ?_
    rintro e w3 ⟨vx, rfl, hN3⟩
    have hG : gtP (putL p) = (p, 0) := gt_put HW.out hm
    have hl := (putL_le hm).1
    obtain ⟨ax, kx, rfl, -⟩ := id hN3.rd
    have R3 : Hid (BlkAt g 26 (pkC p (.slice am M cm) (.slice ab n cb)) w3) := R2.out.kept hN3.2
    have HB3 : Hid (Below w.heap.size w w3) := stepB HB2.out hN3.2
    have HR3 : Hid (PkR w3 p (.slice am M cm) (.slice ab n cb)) := HR2.out.kept hN3.2
    generalize putL p = X at hN3 hG hl
    obtain ⟨K, hK⟩ : ∃ n : Nat, n = X.length := ⟨_, rfl⟩
    have HX : Hid (Rd w3 (.slice ax K kx) X) := (by rw [hK]; exact hN3.rd : Rd w3 (.slice ax K kx) X)
    have HG : Hid (gtP X = (p, 0)) := hG
    have HXl : Hid (X.length ≤ 100000) := (by omega : X.length ≤ 100000)
    have dK : decide ((1200 : Int) < (K : Int)) = false := decide_eq_false (by omega)
    rw [← hK]
    clear hN3 hG hl hK R2 HB2 HR2 hm
    go_wp2_with fail
    refine (wget_any _ X HXl.out _ HX.out).mono ?_
    rintro e w4 ⟨um, ub, rfl, hO4⟩
    rw [HG.out] at hO4 ⊢
    simp only at hO4 ⊢
    have HP4 : Hid (PkR w4 p um ub) := pkO.pkR hO4
    have R4 : Hid (BlkAt g 26 (pkC p (.slice am M cm) (.slice ab n cb)) w4) := R3.out.kept hO4.below
    have HB4 : Hid (Below w.heap.size w w4) := stepB HB3.out hO4.below
    have HR4 : Hid (PkR w4 p (.slice am M cm) (.slice ab n cb)) := HR3.out.kept hO4.below
    obtain ⟨xm, km, rfl, -⟩ := id HP4.out.mac
    obtain ⟨xp, kp, rfl, -⟩ := id HP4.out.body
    obtain ⟨M', hM⟩ : ∃ n : Nat, n = p.mac.length := ⟨_, rfl⟩
    obtain ⟨n', hn⟩ : ∃ n : Nat, n = p.body.length := ⟨_, rfl⟩
    rw [← hM, ← hn] at HP4 ⊢
    clear hO4 hM hn R3 HB3 HR3 HX HG HXl
    go_wp2_with (refine wpList_alloc_blk rfl 26 rfl zpk (alloc_wk _) ?_)
    intro w5 r5 b5 s5
    obtain ⟨g2, hg2⟩ : ∃ n : Nat, n = w4.heap.size := ⟨_, rfl⟩
    rw [← hg2] at r5 ⊢
    have HGe : Hid (w4.heap.size ≤ g2) := by show _ ≤ _; omega
    clear hg2 s5
    go_wp2_with (refine wpList_store_part rfl 26 _ _ rfl rfl (pkC p (.slice xm M' km) (.slice xp n' kp)) rfl [] zpk [] (pkC p (.slice xm M' km) (.slice xp n' kp)) r5 (by simp) (by simp) rfl rfl info_wk (one_pk _ _ _ _ _ _ _) ?_)
    intro w6 r6 hw6
    have hb6 := hw6.below _ _ HGe.out b5
    have S6 : Hid (BlkAt g2 26 (pkC p (.slice xm M' km) (.slice xp n' kp)) w6) := (by simpa using r6 : BlkAt g2 26 (pkC p (.slice xm M' km) (.slice xp n' kp)) w6)
    have R6 : Hid (BlkAt g 26 (pkC p (.slice am M cm) (.slice ab n cb)) w6) := R4.out.kept hb6
    have HB6 : Hid (Below w.heap.size w w6) := stepB HB4.out hb6
    have HR6 : Hid (PkR w6 p (.slice am M cm) (.slice ab n cb)) := HR4.out.kept hb6
    have HP6 : Hid (PkR w6 p (.slice xm M' km) (.slice xp n' kp)) := HP4.out.kept hb6
    clear r5 r6 b5 hw6 hb6 R4 HB4 HR4 HP4 HGe
    have hSm := smB_self p
    go_wp2_with fail
    refine wpG_begin (by kernel_rfl) ?_
    refine gU_ 0 rfl ⟨_, by intro W hW; go_simp <;> with_reducible rfl, ?_⟩
    try simp only [Act.put, pA_, pB_, pC_]
    refine gU_ 1 rfl ⟨_, by intro W hW; go_simp <;> with_reducible rfl, ?_⟩
    try simp only [Act.put, pA_, pB_, pC_]
    refine gU_ 2 rfl ⟨_, by intro W hW; go_simp <;> with_reducible rfl, ?_⟩
    try simp only [Act.put, pA_, pB_, pC_]
    refine gU_ 3 rfl ⟨_, by intro W hW; go_simp <;> with_reducible rfl, ?_⟩
    try simp only [Act.put, pA_, pB_, pC_]
    refine gU_ 4 rfl ⟨_, by intro W hW; go_simp <;> with_reducible rfl, ?_⟩
    try simp only [Act.put, pA_, pB_, pC_]
    refine gU_ 5 rfl ⟨_, by intro W hW; go_simp <;> with_reducible rfl, ?_⟩
    try simp only [Act.put, pA_, pB_, pC_]
    refine gU_ 6 rfl ⟨_, by intro W hW; go_simp <;> with_reducible rfl, ?_⟩
    try simp only [Act.put, pA_, pB_, pC_]
    refine gU_ 7 rfl ⟨_, by intro W hW; go_simp <;> with_reducible rfl, ?_⟩
    try simp only [Act.put, pA_, pB_, pC_]
    refine gU_ 8 rfl ⟨_, by intro W hW; go_simp <;> with_reducible rfl, ?_⟩
    try simp only [Act.put, pA_, pB_, pC_]
    refine gU_ 9 rfl ⟨_, by intro W hW; go_simp <;> with_reducible rfl, ?_⟩
    try simp only [Act.put, pA_, pB_, pC_]
    refine gU_ 10 rfl ⟨_, by intro W hW; go_simp <;> with_reducible rfl, ?_⟩
    try simp only [Act.put, pA_, pB_, pC_]
    refine gU_ 11 rfl ⟨_, by intro W hW; exact exec_whole18 _ rfl rfl rfl S6.out.drew hW, ?_⟩
    try simp only [Act.put, pA_, pB_, pC_]
    refine gU_ 13 rfl ⟨_, by intro W hW; exact exec_whole18 _ rfl rfl rfl R6.out.drew hW, ?_⟩
    try simp only [Act.put, pA_, pB_, pC_]
    refine gD_ 12 fun K hK => ?_
    go_simp
    refine (model18_any p _ _ _ rfl _ (HP6.out.kept (Below.refl _ _).drew)).mono ?_
    rintro e w7 ⟨rfl, b7⟩
    refine hK.out _ _ b7 ?_
    clear hK K
    try simp only [Act.put, pA_, pB_, pC_]
    refine gD_ 14 fun K hK => ?_
    go_simp
    refine (model18_any p _ _ _ rfl _ (HR6.out.kept (stepB (Below.refl _ _).drew b7))).mono ?_
    rintro e w8 ⟨rfl, b8⟩
    refine hK.out _ _ b8 ?_
    clear hK K
    try simp only [Act.put, pA_, pB_, pC_]
    refine gD_ 15 fun K hK => ?_
    go_simp
    refine (same18_any p p _ _ _ _ _ _ rfl rfl _ (HP6.out.kept (stepB (stepB (Below.refl _ _).drew b7) b8)) (HR6.out.kept (stepB (stepB (Below.refl _ _).drew b7) b8))).mono ?_
    rintro e w9 ⟨rfl, b9⟩
    rw [hSm]
    refine hK.out _ _ b9 ?_
    clear hK K
    try simp only [Act.put, pA_, pB_, pC_]
    refine gU_ 16 rfl ⟨_, by intro W hW; go_simp <;> with_reducible rfl, ?_⟩
    try simp only [Act.put, pA_, pB_, pC_]
    refine gU_ 17 rfl ⟨_, by intro W hW; go_simp <;> with_reducible rfl, ?_⟩
    try simp only [Act.put, pA_, pB_, pC_]
    refine gU_ 18 rfl ⟨_, by intro W hW; go_simp <;> with_reducible rfl, ?_⟩
    try simp only [Act.put, pA_, pB_, pC_]
    refine wpG_done (by kernel_rfl) ?_
    have HB9 : Hid (Below w.heap.size w w9) := stepB (stepB (stepB HB6.out.drew b7) b8) b9
    clear b7 b8 b9 S6 R6 HB6 HR6 HP6 hSm dK
    go_wp2_with fail
  rotate_left
  focus
    have hmf : mayB p = false := by simpa using hm
    refine (wput_arg p HW.out hmf _ _ _ rfl _ HR2.out).mono ?_
    rintro e w3 ⟨rfl, b3⟩
    have R3 : Hid (BlkAt g 26 (pkC p (.slice am M cm) (.slice ab n cb)) w3) := R2.out.kept b3
    have HB3 : Hid (Below w.heap.size w w3) := stepB HB2.out b3
    clear b3 R2 HB2 HR2 hm hmf
    go_wp2_with fail
    refine (wget_any _ [] (by decide) _ (Rd.nil _)).mono ?_
    rintro e w4 ⟨um, ub, rfl, hO4⟩
    rw [nil_get] at hO4 ⊢
    simp only at hO4 ⊢
    have hP4 := pkO.pkR hO4
    have R4 : Hid (BlkAt g 26 (pkC p (.slice am M cm) (.slice ab n cb)) w4) := R3.out.kept hO4.below
    have HB4 : Hid (Below w.heap.size w w4) := stepB HB3.out hO4.below
    obtain ⟨xm, km, rfl, -⟩ := id hP4.mac
    obtain ⟨xp, kp, rfl, -⟩ := id hP4.body
    clear hO4 hP4 R3 HB3
    go_wp2_with (refine wpList_alloc_blk rfl 26 rfl zpk (alloc_wk _) ?_)
    intro w5 r5 b5 s5
    obtain ⟨g2, hg2⟩ : ∃ n : Nat, n = w4.heap.size := ⟨_, rfl⟩
    rw [← hg2] at r5 ⊢
    have HGe : Hid (w4.heap.size ≤ g2) := by show _ ≤ _; omega
    clear hg2 s5
    go_wp2_with (refine wpList_store_part rfl 26 _ _ rfl rfl (pkC noPk (.slice xm noPk.mac.length km) (.slice xp noPk.body.length kp)) rfl [] zpk [] (pkC noPk (.slice xm noPk.mac.length km) (.slice xp noPk.body.length kp)) r5 (by simp) (by simp) rfl rfl info_wk (one_pk _ _ _ _ _ _ _) ?_)
    intro w6 r6 hw6
    have HB6 : Hid (Below w.heap.size w w6) := stepB HB4.out (hw6.below _ _ HGe.out b5)
    clear r5 r6 b5 hw6 R4 HB4 HGe
    go_wp2_with fail
    refine wpG_begin (by kernel_rfl) ?_
    refine gU_ 0 rfl ⟨_, by intro W hW; go_simp <;> with_reducible rfl, ?_⟩
    try simp only [Act.put, pA_, pB_, pC_]
    refine gU_ 1 rfl ⟨_, by intro W hW; go_simp <;> with_reducible rfl, ?_⟩
    try simp only [Act.put, pA_, pB_, pC_]
    refine gU_ 2 rfl ⟨_, by intro W hW; go_simp <;> with_reducible rfl, ?_⟩
    try simp only [Act.put, pA_, pB_, pC_]
    refine wpG_skip (i := 3) (nA rfl) (by kernel_rfl) (by kernel_rfl) (by kernel_rfl) (by rfl) ?_
    try simp only [Act.put, pA_, pB_, pC_]
    refine wpG_skip (i := 4) (nA rfl) (by kernel_rfl) (by kernel_rfl) (by kernel_rfl) (by rfl) ?_
    try simp only [Act.put, pA_, pB_, pC_]
    refine wpG_skip (i := 5) (nA rfl) (by kernel_rfl) (by kernel_rfl) (by kernel_rfl) (by rfl) ?_
    try simp only [Act.put, pA_, pB_, pC_]
    refine wpG_skip (i := 6) (nA rfl) (by kernel_rfl) (by kernel_rfl) (by kernel_rfl) (by rfl) ?_
    try simp only [Act.put, pA_, pB_, pC_]
    refine wpG_skip (i := 7) (nA rfl) (by kernel_rfl) (by kernel_rfl) (by kernel_rfl) (by rfl) ?_
    try simp only [Act.put, pA_, pB_, pC_]
    refine wpG_skip (i := 8) (nA rfl) (by kernel_rfl) (by kernel_rfl) (by kernel_rfl) (by rfl) ?_
    try simp only [Act.put, pA_, pB_, pC_]
    refine wpG_skip (i := 9) (nA rfl) (by kernel_rfl) (by kernel_rfl) (by kernel_rfl) (by rfl) ?_
    try simp only [Act.put, pA_, pB_, pC_]
    refine wpG_skip (i := 10) (nA rfl) (by kernel_rfl) (by kernel_rfl) (by kernel_rfl) (by rfl) ?_
    try simp only [Act.put, pA_, pB_, pC_]
    refine wpG_skip (i := 11) (nA rfl) (by kernel_rfl) (by kernel_rfl) (by kernel_rfl) (by rfl) ?_
    try simp only [Act.put, pA_, pB_, pC_]
    refine wpG_skip (i := 12) (nA rfl) (by kernel_rfl) (by kernel_rfl) (by kernel_rfl) (by rfl) ?_
    try simp only [Act.put, pA_, pB_, pC_]
    refine wpG_skip (i := 13) (nA rfl) (by kernel_rfl) (by kernel_rfl) (by kernel_rfl) (by rfl) ?_
    try simp only [Act.put, pA_, pB_, pC_]
    refine wpG_skip (i := 14) (nA rfl) (by kernel_rfl) (by kernel_rfl) (by kernel_rfl) (by rfl) ?_
    try simp only [Act.put, pA_, pB_, pC_]
    refine wpG_skip (i := 15) (nA rfl) (by kernel_rfl) (by kernel_rfl) (by kernel_rfl) (by rfl) ?_
    try simp only [Act.put, pA_, pB_, pC_]
    refine wpG_skip (i := 16) (nA rfl) (by kernel_rfl) (by kernel_rfl) (by kernel_rfl) (by rfl) ?_
    try simp only [Act.put, pA_, pB_, pC_]
    refine wpG_skip (i := 17) (nA rfl) (by kernel_rfl) (by kernel_rfl) (by kernel_rfl) (by rfl) ?_
    try simp only [Act.put, pA_, pB_, pC_]
    refine gU_ 18 rfl ⟨_, by intro W hW; go_simp <;> with_reducible rfl, ?_⟩
    try simp only [Act.put, pA_, pB_, pC_]
    refine wpG_done (by kernel_rfl) ?_
    obtain ⟨w9, hw9⟩ : ∃ W : World, W = w6.drew := ⟨_, rfl⟩
    have HB9 : Hid (Below w.heap.size w w9) := (by rw [hw9]; exact HB6.out.drew : Below w.heap.size w w9)
    rw [← hw9]
    clear HB6 hw9
    go_wp2_with fail
  all_goals
    have HBr9 : Hid (Rd w9 (.slice av L cv) b) := HBr.out.kept HB9.out
    refine (wget_any _ b HLe.out _ HBr9.out).mono ?_
    rintro e wa ⟨um, ub, rfl, hOa⟩
    have hbad : (gtP b).2 ≠ 0 → (gtP b).1 = noPk := gtP_bad
    have hok : (gtP b).2 = 0 → putL (gtP b).1 = b ∧ mayB (gtP b).1 = true := fun h => ⟨put_gt h, (gtP_ok h).2.1⟩
    have hPw : PkW (gtP b).1 := PkW_gtP b
    generalize gtP b = G at hOa hbad hok hPw
    obtain ⟨P, E⟩ := G
    simp only at hOa hbad hok hPw ⊢
    have HBad : Hid (E ≠ 0 → P = noPk) := hbad
    have HOk : Hid (E = 0 → putL P = b ∧ mayB P = true) := hok
    have HPw : Hid (PkW P) := hPw
    have hPa := pkO.pkR hOa
    obtain ⟨xm, km, rfl, -⟩ := id hPa.mac
    obtain ⟨xp, kp, rfl, -⟩ := id hPa.body
    obtain ⟨mx, hmx⟩ : ∃ n : Nat, n = P.mac.length := ⟨_, rfl⟩
    obtain ⟨nx, hnx⟩ : ∃ n : Nat, n = P.body.length := ⟨_, rfl⟩
    rw [← hmx, ← hnx] at hOa ⊢
    have HOa : Hid (pkO w9 P (.slice xm mx km) (.slice xp nx kp) wa) := hOa
    have HNx : Hid (nx = P.body.length) := hnx
    have HN9 : Hid (nx ≤ 9223372036854775807) := (by rw [hnx]; exact hPa.body.len : nx ≤ 9223372036854775807)
    clear hbad hok hPw hPa hOa hmx hnx
    go_wp2_with (refine wpList_alloc_blk rfl 26 rfl zpk (alloc_wk _) ?_)
    intro wb rb bb sb
    obtain ⟨gq, hgq⟩ : ∃ n : Nat, n = wa.heap.size := ⟨_, rfl⟩
    rw [← hgq] at rb ⊢
    have HGq : Hid (w9.heap.size ≤ gq) := by show _ ≤ _; rw [hgq]; exact HOa.out.below.size
    have HOb : Hid (pkO w9 P (.slice xm mx km) (.slice xp nx kp) wb) := OwnG.kept HOa.out bb
    clear hgq sb bb HOa
    go_wp2_with (refine wpList_store_part rfl 26 _ _ rfl rfl (pkC P (.slice xm mx km) (.slice xp nx kp)) rfl [] zpk [] (pkC P (.slice xm mx km) (.slice xp nx kp)) rb (by simp) (by simp) rfl rfl info_wk (one_pk _ _ _ _ _ _ _) ?_)
    intro wc rc hwc
    have HOc : Hid (pkO w9 P (.slice xm mx km) (.slice xp nx kp) wc) := HOb.out.wrote hwc rb HGq.out (by decide)
    have RC : Hid (BlkAt gq 26 (pkC P (.slice xm mx km) (.slice xp nx kp)) wc) := (by simpa using rc : BlkAt gq 26 (pkC P (.slice xm mx km) (.slice xp nx kp)) wc)
    clear rb rc hwc HOb
    by_cases hE : E = 0
    rotate_left
    · have dE : (E != 0) = true := by simpa using hE
      have c0 : wc.cell? ⟨gq, 0, none⟩ = some (.int .i64 0) := by have h := RC.out.cell 0; rw [HBad.out hE] at h; exact h
      have HBe : Hid (Below w.heap.size w wc) := stepB HB9.out HOc.out.below
      clear hE
      go_wp2
      go_ret
      exact ⟨rfl, HBe.out⟩
    subst hE
    have hput := (HOk.out rfl).1
    have hmay := (HOk.out rfl).2
    clear HBad HOk
    go_wp2_with (refine wpList_load_part rfl 26 _ rfl rfl [] (pkC P (.slice xm mx km) (.slice xp nx kp)) [] RC.out (by simp) rfl Try.underlying26 rfl info_wk ?_)
    refine (wput_any P HPw.out hmay _ _ _ rfl _ (pkO.pkR HOc.out)).mono ?_
    rintro e wd ⟨vz, rfl, hNz⟩
    rw [hput] at hNz
    obtain ⟨az, kz, rfl, -⟩ := id hNz.rd
    have RD : Hid (BlkAt gq 26 (pkC P (.slice xm mx km) (.slice xp nx kp)) wd) := RC.out.kept hNz.2
    have HOd : Hid (pkO w9 P (.slice xm mx km) (.slice xp nx kp) wd) := OwnG.kept HOc.out hNz.2
    have HRz : Hid (Rd wd (.slice az b.length kz) b) := hNz.rd
    have HBd : Hid (Rd wd (.slice av L cv) b) := HBr9.out.kept HOd.out.below
    clear hNz RC HOc hput hmay
    have hcv1 := conv18 HRz.out
    have hcv2 := conv18 HBd.out
    obtain ⟨SB, hSB⟩ : ∃ B : ByteArray, B = ⟨b.toArray⟩ := ⟨_, rfl⟩
    rw [← hSB] at hcv1 hcv2
    have HSB : Hid (SB = ⟨b.toArray⟩) := hSB
    have q1 : (SB.toList == SB.toList) = true := by simp
    clear hSB
    go_wp2
    clear hcv1 hcv2
    have HS : Hid (Bk w9 gq P xm mx km xp nx kp wd) := ⟨RD.out, ⟨P.body, HNx.out.symm, HOd.out.rows _ (List.mem_cons_self ..)⟩, HOd.out.below⟩
    clear RD HOd HRz HBd
    go_loopw [16] (fun i wr => ∃ j : Nat, j ≤ nx ∧ i = .int .i64 (j : Int) ∧ Bk w9 gq P xm mx km xp nx kp wr) (fun i _ => nx - (intOf i).toNat)
    case atStart => exact ⟨0, Nat.zero_le _, rfl, HS.out⟩
    case round =>
      obtain ⟨j, hj, rfl, hk⟩ := hrel
      have c8 : wr.cell? ⟨gq, 8, none⟩ = some (.slice xp nx kp) := hk.pk.cell 8
      by_cases hlt : j < nx
      · obtain ⟨l, hl, hrow⟩ := hk.row
        have hne := own_ne18 hrow hk.pk (by decide)
        obtain ⟨gz, rfl, hge, hcap, hcell, hfree, hset⟩ := own_at hl.symm hrow hlt
        have hX := byte_xor (l.getD j 0) 255
        obtain ⟨u, hu⟩ : ∃ u : UInt8, u = l.getD j 0 ^^^ 255 := ⟨_, rfl⟩
        have hx255 : bits .xor .u8 ((l.getD j 0).toNat : Int) 255 = (u.toNat : Int) := by rw [hu]; exact byte_xor (l.getD j 0) 255
        generalize (l.getD j 0).toNat = y at hcell hx255
        have HK : Hid (∀ z : Int, z = (u.toNat : Int) → Bk w9 gq P xm mx km (some ⟨gz, 0, none⟩) nx kp (wr.setCell ⟨gz, j, none⟩ (.int .u8 z)).drew) := fun z hz => by
          have hw := Wrote.set gz j wr (.int .u8 z)
          refine ⟨(hk.pk.wrote hw (fun e => hne gz rfl e.symm)).drew, ⟨l.set j u, by rw [List.length_set]; exact hl, ?_⟩, (hw.below _ _ hge hk.below).drew⟩
          exact own_keptG (hset u z hz) (Below.refl _ _).drew
        have d1 : decide ((j : Int) < (nx : Int)) = true := decide_eq_true (by omega)
        have d2 : (j : Int) < (nx : Int) := by omega
        have d3 : (nx : Int) ≤ (kp : Int) := by omega
        have hn9 := HN9.out
        clear hk hrow hset hne hX hu
        go_wp2
        go_region
        go_wp2
        go_roundw
        case rel => exact ⟨j + 1, by omega, by go_num, HK.out _ rfl⟩
        case measure => simp [intOf]; omega
      · have d1 : decide ((j : Int) < (nx : Int)) = false := decide_eq_false (by omega)
        have d2 : decide (j < nx) = false := decide_eq_false hlt
        have HBl : Hid (Below w9.heap.size w9 wr) := hk.below
        have hcv := conv18 (HBr9.out.kept hk.below)
        rw [← HSB.out] at hcv
        clear hk
        go_wp2
        go_ret
        exact ⟨rfl, stepB HB9.out HBl.out⟩
end Go.Proofs.Ytonnngndknoljaa
