/- What the law WireGets answers at every input: the walk. -/
import Derived.Test.YtonnngndknoljaaAw18
import Derived.Test.YtonnngndknoljaaW18Puts
namespace Go.Proofs.Ytonnngndknoljaa
open Go.ChangeShapes Go.WideShapes Go.ChangeAt Go.RowKit
set_option linter.unusedSimpArgs false
set_option linter.unusedVariables false

set_option maxRecDepth 100000 in
set_option maxHeartbeats 8000000 in
theorem gets_walk (v : Value) (b : List UInt8) (w : World) (hr : Rd w v b) :
    Calls Try.prog 4 #[v] w fun e w' => e = .returned (.bool true) ∧ Below w.heap.size w w' := by
  obtain ⟨ab, cb, rfl, hcb, hmb, -⟩ := id hr
  obtain ⟨L, hL⟩ : ∃ n : Nat, n = b.length := ⟨_, rfl⟩
  rw [← hL] at hr ⊢
  have HR : Hid (Rd w (.slice ab L cb) b) := hr
  have HL : Hid (L = b.length) := hL
  have hL2 : L ≤ 9223372036854775807 := by unfold maxLen at hmb; omega
  clear hr hL hcb hmb
  go_enter Try.func4, Try.ntmps4
  go_wp2_with fail
  refine (awake_any _).mono ?_
  rintro e w1 ⟨rfl, b1⟩
  have HB1 : Hid (Below w.heap.size w w1) := b1
  clear b1
  by_cases h1 : L ≤ 3000
  rotate_left
  · have d : decide ((3000 : Int) < (L : Int)) = true := decide_eq_true (by omega)
    clear h1
    go_wp2
    go_ret
    exact ⟨rfl, HB1.out⟩
  have d1 : decide ((3000 : Int) < (L : Int)) = false := decide_eq_false (by omega)
  have HLe : Hid (b.length ≤ 100000) := (by rw [← HL.out]; omega : b.length ≤ 100000)
  clear h1
  go_wp2_with fail
  refine (wget_any _ b HLe.out _ (HR.out.kept HB1.out)).mono ?_
  rintro e w2 ⟨vm, vb, rfl, hO2⟩
  have HR2 : Hid (Rd w2 (.slice ab L cb) b) := (HR.out.kept HB1.out).kept hO2.below
  have HB2 : Hid (Below w.heap.size w w2) := stepB HB1.out hO2.below
  have HF : Hid (∀ W, Rd W (.slice ab L cb) b → Calls Try.prog 15 #[.slice ab L cb] W fun e w' => ∃ vm vb, e = .returned (.tuple #[.agg (pkC (gtP b).1 vm vb).toArray, .int .i64 (gtP b).2]) ∧ PkR w' (gtP b).1 vm vb ∧ Below W.heap.size W w') := fun W h => get18_any _ b W h
  generalize gtP b = G at HF hO2
  obtain ⟨P, E⟩ := G
  replace HF : Hid (∀ W, Rd W (.slice ab L cb) b → Calls Try.prog 15 #[.slice ab L cb] W fun e w' => ∃ vm vb, e = .returned (.tuple #[.agg (pkC P vm vb).toArray, .int .i64 E]) ∧ PkR w' P vm vb ∧ Below W.heap.size W w') := HF.out
  have HP2 : Hid (PkR w2 P vm vb) := pkO.pkR hO2
  simp only
  clear hO2 HB1 HR
  obtain ⟨am, cm, rfl, -⟩ := id HP2.out.mac
  obtain ⟨ap, cp, rfl, -⟩ := id HP2.out.body
  obtain ⟨M, hM⟩ : ∃ n : Nat, n = P.mac.length := ⟨_, rfl⟩
  obtain ⟨n, hn⟩ : ∃ n : Nat, n = P.body.length := ⟨_, rfl⟩
  rw [← hM, ← hn] at HP2 ⊢
  clear hM hn
  go_wp2_with (refine wpList_alloc_blk rfl 26 rfl zpk (alloc_wk _) ?_)
  intro w3 r3 b3 s3
  obtain ⟨g, hg⟩ : ∃ n : Nat, n = w2.heap.size := ⟨_, rfl⟩
  rw [← hg] at r3 ⊢
  have HGe : Hid (w2.heap.size ≤ g) := by show _ ≤ _; omega
  clear hg s3
  go_wp2_with (refine wpList_store_part rfl 26 _ _ rfl rfl (pkC P (.slice am M cm) (.slice ap n cp)) rfl [] zpk [] (pkC P (.slice am M cm) (.slice ap n cp)) r3 (by simp) (by simp) rfl rfl info_wk (one_pk _ _ _ _ _ _ _) ?_)
  intro w4 r4 hw4
  have hb4 := hw4.below _ _ HGe.out b3
  have R4 : Hid (BlkAt g 26 (pkC P (.slice am M cm) (.slice ap n cp)) w4) := (by simpa using r4 : BlkAt g 26 (pkC P (.slice am M cm) (.slice ap n cp)) w4)
  have HR4 : Hid (Rd w4 (.slice ab L cb) b) := HR2.out.kept hb4
  have HB4 : Hid (Below w.heap.size w w4) := stepB HB2.out hb4
  have HP4 : Hid (PkR w4 P (.slice am M cm) (.slice ap n cp)) := HP2.out.kept hb4
  clear r3 r4 b3 hw4 hb4 HR2 HB2 HP2
  go_wp2_with fail
  refine (HF.out _ HR4.out).mono ?_
  rintro e w5 ⟨um, ub, rfl, hQ5, b5⟩
  have R5 : Hid (BlkAt g 26 (pkC P (.slice am M cm) (.slice ap n cp)) w5) := R4.out.kept b5
  have HB5 : Hid (Below w.heap.size w w5) := stepB HB4.out b5
  have HP5 : Hid (PkR w5 P (.slice am M cm) (.slice ap n cp)) := HP4.out.kept b5
  have HQ5 : Hid (PkR w5 P um ub) := hQ5
  clear hQ5 b5 R4 HB4 HP4 HR4
  obtain ⟨xm, km, rfl, -⟩ := id HQ5.out.mac
  obtain ⟨xp, kp, rfl, -⟩ := id HQ5.out.body
  obtain ⟨M', hM⟩ : ∃ n : Nat, n = P.mac.length := ⟨_, rfl⟩
  obtain ⟨n', hn⟩ : ∃ n : Nat, n = P.body.length := ⟨_, rfl⟩
  rw [← hM, ← hn] at HQ5 ⊢
  clear hM hn
  go_wp2_with (refine wpList_alloc_blk rfl 28 rfl zpk (alloc_pk _) ?_)
  intro w6 r6 b6 s6
  obtain ⟨g2, hg2⟩ : ∃ n : Nat, n = w5.heap.size := ⟨_, rfl⟩
  rw [← hg2] at r6 ⊢
  have HGe2 : Hid (w5.heap.size ≤ g2) := by show _ ≤ _; omega
  clear hg2 s6
  go_wp2_with (refine wpList_store_part rfl 28 _ _ rfl rfl (pkC P (.slice xm M' km) (.slice xp n' kp)) rfl [] zpk [] (pkC P (.slice xm M' km) (.slice xp n' kp)) r6 (by simp) (by simp) rfl rfl info_pk (one_pk _ _ _ _ _ _ _) ?_)
  intro w7 r7 hw7
  have hb7 := hw7.below _ _ HGe2.out b6
  have R7 : Hid (BlkAt g 26 (pkC P (.slice am M cm) (.slice ap n cp)) w7) := R5.out.kept hb7
  have S7 : Hid (BlkAt g2 28 (pkC P (.slice xm M' km) (.slice xp n' kp)) w7) := (by simpa using r7 : BlkAt g2 28 (pkC P (.slice xm M' km) (.slice xp n' kp)) w7)
  have HB7 : Hid (Below w.heap.size w w7) := stepB HB5.out hb7
  have HP7 : Hid (PkR w7 P (.slice am M cm) (.slice ap n cp)) := HP5.out.kept hb7
  have HQ7 : Hid (PkR w7 P (.slice xm M' km) (.slice xp n' kp)) := HQ5.out.kept hb7
  clear r6 r7 b6 hw7 hb7 R5 HB5 HP5 HQ5
  have dE : (E == E) = true := by simp
  have hSm := smB_self P
  go_wp2_with fail
  refine wpG_begin (by kernel_rfl) ?_
  refine gU_ 0 rfl ⟨_, by intro W hW; go_simp <;> with_reducible rfl, ?_⟩
  try simp only [Act.put, pA_, pB_, pC_]
  refine gU_ 1 rfl ⟨_, by intro W hW; go_simp <;> with_reducible rfl, ?_⟩
  try simp only [Act.put, pA_, pB_, pC_]
  refine gU_ 2 rfl ⟨_, by intro W hW; go_simp <;> with_reducible rfl, ?_⟩
  try simp only [Act.put, pA_, pB_, pC_]
  refine gU_ 3 rfl ⟨_, by intro W hW; go_simp <;> with_reducible rfl, ?_⟩
  try simp only [Act.put, pA_, pB_, pC_]
  refine gU_ 4 rfl ⟨_, by intro W hW; exact exec_whole18 _ rfl rfl rfl R7.out.drew hW, ?_⟩
  try simp only [Act.put, pA_, pB_, pC_]
  refine gU_ 6 rfl ⟨_, by intro W hW; exact exec_whole18r _ rfl rfl rfl S7.out.drew hW, ?_⟩
  try simp only [Act.put, pA_, pB_, pC_]
  refine gD_ 5 fun K hK => ?_
  go_simp
  refine (model18_any P _ _ _ rfl _ (HP7.out.kept (Below.refl _ _).drew)).mono ?_
  rintro e w8 ⟨rfl, b8⟩
  refine hK.out _ _ b8 ?_
  clear hK K
  try simp only [Act.put, pA_, pB_, pC_]
  refine gD_ 7 fun K hK => ?_
  go_simp
  refine (same18_any P P _ _ _ _ _ _ rfl rfl _ (HP7.out.kept (stepB (Below.refl _ _).drew b8)) (HQ7.out.kept (stepB (Below.refl _ _).drew b8))).mono ?_
  rintro e w9 ⟨rfl, b9⟩
  rw [hSm]
  refine hK.out _ _ b9 ?_
  clear hK K
  try simp only [Act.put, pA_, pB_, pC_]
  refine gU_ 8 rfl ⟨_, by intro W hW; go_simp <;> with_reducible rfl, ?_⟩
  try simp only [Act.put, pA_, pB_, pC_]
  refine gU_ 9 rfl ⟨_, by intro W hW; go_simp <;> with_reducible rfl, ?_⟩
  try simp only [Act.put, pA_, pB_, pC_]
  refine wpG_done (by kernel_rfl) ?_
  have HB9 : Hid (Below w.heap.size w w9) := stepB (stepB HB7.out.drew b8) b9
  clear b8 b9 R7 S7 HP7 HQ7 HB7
  go_wp2
  go_ret
  exact ⟨rfl, HB9.out⟩
end Go.Proofs.Ytonnngndknoljaa
