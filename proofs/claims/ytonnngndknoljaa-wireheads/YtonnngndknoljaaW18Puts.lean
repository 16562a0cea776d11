/- What the law WirePuts answers at every input: the walk. -/
import Derived.Test.YtonnngndknoljaaAw18
namespace Go.Proofs.Ytonnngndknoljaa
open Go.ChangeShapes Go.WideShapes Go.ChangeAt Go.RowKit
set_option linter.unusedSimpArgs false
set_option linter.unusedVariables false

theorem exec_whole18r {op : Oper} {a : Act} {w W : World} (x : Operand) (ho : op.op = .load 28 x) {g : Nat} {cs : List Value} (hx : a.eval x = .pointer (some ⟨g, 0, none⟩)) (hl : cs.length = 9) (hb : BlkAt g 28 cs w) (hW : Below w.heap.size w W) :
    (execOp a.eval op).run Try.prog W = .ok (.value (.agg cs.toArray)) W := by
  refine exec_load_part 28 x ho hx [] cs [] hb hW (by simp) rfl Try.underlying28 rfl ?_
  rw [hl]
  exact info_pk

set_option maxRecDepth 100000 in
set_option maxHeartbeats 8000000 in
theorem puts_walk (p : Pkt) (hw : PkW p) (vm vb : Value) (A : Array Value) (hA : A = (pkC p vm vb).toArray) (w : World) (hr : PkR w p vm vb) :
    Calls Try.prog 3 #[.agg A] w fun e w' => e = .returned (.bool true) ∧ Below w.heap.size w w' := by
  obtain ⟨am, cm, rfl, hcm, hmm, -⟩ := id hr.mac
  obtain ⟨ab, cb, rfl, hcb, hmb, -⟩ := id hr.body
  obtain ⟨M, hM⟩ : ∃ n : Nat, n = p.mac.length := ⟨_, rfl⟩
  obtain ⟨n, hn⟩ : ∃ n : Nat, n = p.body.length := ⟨_, rfl⟩
  rw [← hM, ← hn] at hA hr
  have HA : Hid (A = (pkC p (.slice am M cm) (.slice ab n cb)).toArray) := hA
  have HR : Hid (PkR w p (.slice am M cm) (.slice ab n cb)) := hr
  have HW : Hid (PkW p) := hw
  have HM : Hid (M = p.mac.length) := hM
  have HN : Hid (n = p.body.length) := hn
  have hn2 : n ≤ 9223372036854775807 := by unfold maxLen at hmb; omega
  have hM2 : M ≤ 9223372036854775807 := by unfold maxLen at hmm; omega
  clear hA hr hw hM hn hcm hmm hcb hmb
  go_enter Try.func3, Try.ntmps3
  go_wp2_with (refine wpList_box_blk rfl 26 _ rfl (pkC p (.slice am M cm) (.slice ab n cb)) (by rw [← HA.out]; rfl) ?_)
  intro w1 r1 b1 s1
  obtain ⟨g, hg⟩ : ∃ n : Nat, n = w.heap.size := ⟨_, rfl⟩
  rw [← hg] at r1 ⊢
  have R1 : Hid (BlkAt g 26 (pkC p (.slice am M cm) (.slice ab n cb)) w1) := r1
  have HB1 : Hid (Below w.heap.size w w1) := b1
  clear r1 b1 s1 hg HA
  go_wp2_with fail
  refine (awake_any _).mono ?_
  rintro e w2 ⟨rfl, b2⟩
  have R2 : Hid (BlkAt g 26 (pkC p (.slice am M cm) (.slice ab n cb)) w2) := R1.out.kept b2
  have HB2 : Hid (Below w.heap.size w w2) := stepB HB1.out b2
  have c6 : w2.cell? ⟨g, 6, none⟩ = some (.slice am M cm) := R2.out.cell 6
  have c8 : w2.cell? ⟨g, 8, none⟩ = some (.slice ab n cb) := R2.out.cell 8
  clear b2 R1 HB1
  by_cases h1 : n ≤ 3000
  rotate_left
  · have d : decide ((3000 : Int) < (n : Int)) = true := decide_eq_true (by omega)
    clear h1
    go_wp2
    go_ret
    exact ⟨rfl, HB2.out⟩
  have d1 : decide ((3000 : Int) < (n : Int)) = false := decide_eq_false (by omega)
  by_cases h2 : M ≤ 100
  rotate_left
  · have d : decide ((100 : Int) < (M : Int)) = true := decide_eq_true (by omega)
    clear h1 h2
    go_wp2
    go_ret
    exact ⟨rfl, HB2.out⟩
  have d2 : decide ((100 : Int) < (M : Int)) = false := decide_eq_false (by omega)
  have HL1 : Hid (p.mac.length ≤ 100000) := (by rw [← HM.out]; omega : p.mac.length ≤ 100000)
  have HL2 : Hid (p.body.length ≤ 100000) := (by rw [← HN.out]; omega : p.body.length ≤ 100000)
  have HR2 : Hid (PkR w2 p (.slice am M cm) (.slice ab n cb)) := HR.out.kept HB2.out
  clear h1 h2 HR
  go_wp2_with (refine wpList_load_part rfl 26 _ rfl rfl [] (pkC p (.slice am M cm) (.slice ab n cb)) [] R2.out (by simp) rfl Try.underlying26 rfl info_wk ?_)
  refine (model18_any p _ _ _ rfl _ HR2.out).mono ?_
  rintro e w3 ⟨rfl, b3⟩
  have R3 : Hid (BlkAt g 26 (pkC p (.slice am M cm) (.slice ab n cb)) w3) := R2.out.kept b3
  have HB3 : Hid (Below w.heap.size w w3) := stepB HB2.out b3
  have HR3 : Hid (PkR w3 p (.slice am M cm) (.slice ab n cb)) := HR2.out.kept b3
  clear b3 R2 HB2 HR2 c6 c8
  go_wp2_with (refine wpList_alloc_blk rfl 28 rfl zpk (alloc_pk _) ?_)
  intro w4 r4 b4 s4
  obtain ⟨g2, hg2⟩ : ∃ n : Nat, n = w3.heap.size := ⟨_, rfl⟩
  rw [← hg2] at r4 ⊢
  have HGe : Hid (w3.heap.size ≤ g2) := by show _ ≤ _; omega
  have HB4 : Hid (Below w3.heap.size w3 w4) := b4
  clear hg2 b4 s4
  go_wp2_with (refine wpList_store_part rfl 28 _ _ rfl rfl (pkC p (.slice am M cm) (.slice ab n cb)) rfl [] zpk [] (pkC p (.slice am M cm) (.slice ab n cb)) r4 (by simp) (by simp) rfl rfl info_pk (one_pk _ _ _ _ _ _ _) ?_)
  intro w5 r5 hw5
  have hb5 := hw5.below _ _ HGe.out HB4.out
  have R5 : Hid (BlkAt g 26 (pkC p (.slice am M cm) (.slice ab n cb)) w5) := R3.out.kept hb5
  have S5 : Hid (BlkAt g2 28 (pkC p (.slice am M cm) (.slice ab n cb)) w5) := (by simpa using r5 : BlkAt g2 28 (pkC p (.slice am M cm) (.slice ab n cb)) w5)
  have HB5 : Hid (Below w.heap.size w w5) := stepB HB3.out hb5
  have HR5 : Hid (PkR w5 p (.slice am M cm) (.slice ab n cb)) := HR3.out.kept hb5
  clear r4 r5 hw5 hb5 HB4 HGe R3 HB3 HR3
  go_wp2_with (refine wpList_load_part rfl 26 _ rfl rfl [] (pkC p (.slice am M cm) (.slice ab n cb)) [] R5.out (by simp) rfl Try.underlying26 rfl info_wk ?_)
  by_cases hm : mayB p = true
  · refine (wput_any p HW.out hm _ _ _ rfl _ HR5.out).mono ?_
    rintro e w6 ⟨vx, rfl, hN6⟩
    obtain ⟨ax, kx, rfl, -⟩ := id hN6.rd
    have HX : Hid (Rd w6 (.slice ax (putL p).length kx) (putL p)) := hN6.rd
    have R6 : Hid (BlkAt g 26 (pkC p (.slice am M cm) (.slice ab n cb)) w6) := R5.out.kept hN6.2
    have S6 : Hid (BlkAt g2 28 (pkC p (.slice am M cm) (.slice ab n cb)) w6) := S5.out.kept hN6.2
    have HB6 : Hid (Below w.heap.size w w6) := stepB HB5.out hN6.2
    have HR6 : Hid (PkR w6 p (.slice am M cm) (.slice ab n cb)) := HR5.out.kept hN6.2
    clear hN6 R5 S5 HB5 HR5
    go_wp2_with (refine wpList_load_part rfl 28 _ rfl rfl [] (pkC p (.slice am M cm) (.slice ab n cb)) [] S6.out (by simp) rfl Try.underlying28 rfl info_pk ?_)
    refine (may18_any p _ _ _ rfl _ HR6.out).mono ?_
    rintro e w7 ⟨rfl, b7⟩
    rw [hm]
    have HX7 : Hid (Rd w7 (.slice ax (putL p).length kx) (putL p)) := HX.out.kept b7
    have R7 : Hid (BlkAt g 26 (pkC p (.slice am M cm) (.slice ab n cb)) w7) := R6.out.kept b7
    have S7 : Hid (BlkAt g2 28 (pkC p (.slice am M cm) (.slice ab n cb)) w7) := S6.out.kept b7
    have HB7 : Hid (Below w.heap.size w w7) := stepB HB6.out b7
    have HR7 : Hid (PkR w7 p (.slice am M cm) (.slice ab n cb)) := HR6.out.kept b7
    have HMy : Hid (mayB p = true) := hm
    clear b7 R6 S6 HB6 HR6 HX hm
    have q1 : ((sgL p) == (sgL p)) = true := by simp
    have q2 : ((putL p) == (putL p)) = true := by simp
    go_wp2_with fail
    refine wpG_begin (by kernel_rfl) ?_
    refine gU_ 0 rfl ⟨_, by intro W hW; exact exec_whole18 _ rfl rfl rfl R7.out.drew hW, ?_⟩
    try simp only [Act.put, pA_, pB_, pC_]
    refine gU_ 3 rfl ⟨_, by intro W hW; exact exec_whole18r _ rfl rfl rfl S7.out.drew hW, ?_⟩
    try simp only [Act.put, pA_, pB_, pC_]
    refine gD_ 1 fun K hK => ?_
    go_simp
    refine (wsigned_any p HW.out _ _ _ rfl _ (HR7.out.kept (Below.refl _ _).drew)).mono ?_
    rintro e w8 ⟨v8, rfl, hN8⟩
    refine hK.out _ _ hN8.2 ?_
    clear hK K
    have hR8 := hN8.rd
    try simp only [Act.put, pA_, pB_, pC_]
    refine gU_ 2 rfl ⟨_, by intro W hW; have hcv := conv18 (hR8.kept hW); go_simp <;> with_reducible rfl, ?_⟩
    try simp only [Act.put, pA_, pB_, pC_]
    refine gD_ 4 fun K hK => ?_
    go_simp
    refine (signed18_any p HW.out HL1.out HL2.out _ _ _ rfl _ (HR7.out.kept (stepB (Below.refl _ _).drew hN8.2))).mono ?_
    rintro e w9 ⟨v9, rfl, hR9, b9⟩
    refine hK.out _ _ b9 ?_
    clear hK K
    try simp only [Act.put, pA_, pB_, pC_]
    refine gU_ 5 rfl ⟨_, by intro W hW; have hcv := conv18 (hR9.kept hW); go_simp <;> with_reducible rfl, ?_⟩
    try simp only [Act.put, pA_, pB_, pC_]
    refine gU_ 6 rfl ⟨_, by intro W hW; go_simp <;> with_reducible rfl, ?_⟩
    try simp only [Act.put, pA_, pB_, pC_]
    refine wpG_done (by kernel_rfl) ?_
    have hb9 : Below w7.heap.size w7 w9 := stepB (stepB (Below.refl _ _).drew hN8.2) b9
    have HX9 : Hid (Rd w9 (.slice ax (putL p).length kx) (putL p)) := HX7.out.kept hb9
    have S9 : Hid (BlkAt g2 28 (pkC p (.slice am M cm) (.slice ab n cb)) w9) := S7.out.kept hb9
    have HB9 : Hid (Below w.heap.size w w9) := stepB HB7.out hb9
    have HR9 : Hid (PkR w9 p (.slice am M cm) (.slice ab n cb)) := HR7.out.kept hb9
    clear hN8 hR8 hR9 b9 hb9 R7 S7 HB7 HR7 HX7 q1
    go_wp2_with fail
    refine wpG_begin (by kernel_rfl) ?_
    refine gU_ 0 rfl ⟨_, by intro W hW; go_simp <;> with_reducible rfl, ?_⟩
    try simp only [Act.put, pA_, pB_, pC_]
    refine gU_ 1 rfl ⟨_, by intro W hW; go_simp <;> with_reducible rfl, ?_⟩
    try simp only [Act.put, pA_, pB_, pC_]
    refine gU_ 2 rfl ⟨_, by intro W hW; go_simp <;> with_reducible rfl, ?_⟩
    try simp only [Act.put, pA_, pB_, pC_]
    refine gU_ 3 rfl ⟨_, by intro W hW; go_simp <;> with_reducible rfl, ?_⟩
    try simp only [Act.put, pA_, pB_, pC_]
    refine gU_ 4 rfl ⟨_, by intro W hW; have hcv := conv18 (HX9.out.drew.kept hW); go_simp <;> with_reducible rfl, ?_⟩
    try simp only [Act.put, pA_, pB_, pC_]
    refine gU_ 5 rfl ⟨_, by intro W hW; exact exec_whole18r _ rfl rfl rfl S9.out.drew hW, ?_⟩
    try simp only [Act.put, pA_, pB_, pC_]
    refine gD_ 6 fun K hK => ?_
    go_simp
    refine (put18_any p HW.out (mayB_kind HMy.out) HL1.out HL2.out _ _ _ rfl _ (HR9.out.kept (Below.refl _ _).drew)).mono ?_
    rintro e w10 ⟨v10, rfl, hN10⟩
    refine hK.out _ _ hN10.2 ?_
    clear hK K
    have hR10 := hN10.rd
    try simp only [Act.put, pA_, pB_, pC_]
    refine gU_ 7 rfl ⟨_, by intro W hW; have hcv := conv18 (hR10.kept hW); go_simp <;> with_reducible rfl, ?_⟩
    try simp only [Act.put, pA_, pB_, pC_]
    refine gU_ 8 rfl ⟨_, by intro W hW; go_simp <;> with_reducible rfl, ?_⟩
    try simp only [Act.put, pA_, pB_, pC_]
    refine gU_ 9 rfl ⟨_, by intro W hW; go_simp <;> with_reducible rfl, ?_⟩
    try simp only [Act.put, pA_, pB_, pC_]
    refine gU_ 10 rfl ⟨_, by intro W hW; go_simp <;> with_reducible rfl, ?_⟩
    try simp only [Act.put, pA_, pB_, pC_]
    refine wpG_done (by kernel_rfl) ?_
    have HB10 : Hid (Below w.heap.size w w10) := stepB (stepB HB9.out (Below.refl _ _).drew) hN10.2
    clear hN10 hR10 HX9 S9 HB9 HR9
    go_wp2
    go_ret
    exact ⟨rfl, HB10.out⟩
  · have hmf : mayB p = false := by simpa using hm
    refine (wput_arg p HW.out hmf _ _ _ rfl _ HR5.out).mono ?_
    rintro e w6 ⟨rfl, b6⟩
    have R6 : Hid (BlkAt g 26 (pkC p (.slice am M cm) (.slice ab n cb)) w6) := R5.out.kept b6
    have S6 : Hid (BlkAt g2 28 (pkC p (.slice am M cm) (.slice ab n cb)) w6) := S5.out.kept b6
    have HB6 : Hid (Below w.heap.size w w6) := stepB HB5.out b6
    have HR6 : Hid (PkR w6 p (.slice am M cm) (.slice ab n cb)) := HR5.out.kept b6
    clear b6 R5 S5 HB5 HR5
    go_wp2_with (refine wpList_load_part rfl 28 _ rfl rfl [] (pkC p (.slice am M cm) (.slice ab n cb)) [] S6.out (by simp) rfl Try.underlying28 rfl info_pk ?_)
    refine (may18_any p _ _ _ rfl _ HR6.out).mono ?_
    rintro e w7 ⟨rfl, b7⟩
    rw [hmf]
    have R7 : Hid (BlkAt g 26 (pkC p (.slice am M cm) (.slice ab n cb)) w7) := R6.out.kept b7
    have S7 : Hid (BlkAt g2 28 (pkC p (.slice am M cm) (.slice ab n cb)) w7) := S6.out.kept b7
    have HB7 : Hid (Below w.heap.size w w7) := stepB HB6.out b7
    have HR7 : Hid (PkR w7 p (.slice am M cm) (.slice ab n cb)) := HR6.out.kept b7
    clear b7 R6 S6 HB6 HR6 hm hmf
    have q1 : ((sgL p) == (sgL p)) = true := by simp
    go_wp2_with fail
    refine wpG_begin (by kernel_rfl) ?_
    refine gU_ 0 rfl ⟨_, by intro W hW; exact exec_whole18 _ rfl rfl rfl R7.out.drew hW, ?_⟩
    try simp only [Act.put, pA_, pB_, pC_]
    refine gU_ 3 rfl ⟨_, by intro W hW; exact exec_whole18r _ rfl rfl rfl S7.out.drew hW, ?_⟩
    try simp only [Act.put, pA_, pB_, pC_]
    refine gD_ 1 fun K hK => ?_
    go_simp
    refine (wsigned_any p HW.out _ _ _ rfl _ (HR7.out.kept (Below.refl _ _).drew)).mono ?_
    rintro e w8 ⟨v8, rfl, hN8⟩
    refine hK.out _ _ hN8.2 ?_
    clear hK K
    have hR8 := hN8.rd
    try simp only [Act.put, pA_, pB_, pC_]
    refine gU_ 2 rfl ⟨_, by intro W hW; have hcv := conv18 (hR8.kept hW); go_simp <;> with_reducible rfl, ?_⟩
    try simp only [Act.put, pA_, pB_, pC_]
    refine gD_ 4 fun K hK => ?_
    go_simp
    refine (signed18_any p HW.out HL1.out HL2.out _ _ _ rfl _ (HR7.out.kept (stepB (Below.refl _ _).drew hN8.2))).mono ?_
    rintro e w9 ⟨v9, rfl, hR9, b9⟩
    refine hK.out _ _ b9 ?_
    clear hK K
    try simp only [Act.put, pA_, pB_, pC_]
    refine gU_ 5 rfl ⟨_, by intro W hW; have hcv := conv18 (hR9.kept hW); go_simp <;> with_reducible rfl, ?_⟩
    try simp only [Act.put, pA_, pB_, pC_]
    refine gU_ 6 rfl ⟨_, by intro W hW; go_simp <;> with_reducible rfl, ?_⟩
    try simp only [Act.put, pA_, pB_, pC_]
    refine wpG_done (by kernel_rfl) ?_
    have HB9 : Hid (Below w.heap.size w w9) := stepB HB7.out (stepB (stepB (Below.refl _ _).drew hN8.2) b9)
    clear hN8 hR8 hR9 b9 R7 S7 HB7 HR7 q1
    go_wp2
    go_ret
    exact ⟨rfl, HB9.out⟩
end Go.Proofs.Ytonnngndknoljaa
