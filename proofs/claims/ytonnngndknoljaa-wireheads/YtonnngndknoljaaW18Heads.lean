/- What the law WireHeads answers at every input: the walk. -/
import Derived.Test.YtonnngndknoljaaAw18
import Derived.Test.YtonnngndknoljaaW18Puts
import Derived.Test.YtonnngndknoljaaArrB
namespace Go.Proofs.Ytonnngndknoljaa
open Go.ChangeShapes Go.WideShapes Go.ChangeAt Go.RowKit
set_option linter.unusedSimpArgs false
set_option linter.unusedVariables false

set_option maxRecDepth 100000 in
set_option maxHeartbeats 16000000 in
theorem heads_walk (x : UInt8) (Aa : Array Value) (H : List UInt8) (hH : H.length = 27) (hAa : Aa = ((byI H).map (Value.int .u8)).toArray) (v : Value) (b : List UInt8) (w : World) (hr : Rd w v b) :
    Calls Try.prog 6 #[.int .u8 (x.toNat : Int), .agg Aa, v] w fun e w' => e = .returned (.bool true) ∧ Below w.heap.size w w' := by
  obtain ⟨ab, cb, rfl, hcb, hmb, -⟩ := id hr
  obtain ⟨m, hm⟩ : ∃ n : Nat, n = b.length := ⟨_, rfl⟩
  rw [← hm] at hr ⊢
  have HR : Hid (Rd w (.slice ab m cb) b) := hr
  have HM : Hid (m = b.length) := hm
  have hm2 : m ≤ 9223372036854775807 := by unfold maxLen at hmb; omega
  have HH : Hid (H.length = 27) := hH
  clear hr hm hcb hmb
  go_enter Try.func6, Try.ntmps6
  go_wp2_with (refine wpList_box_row (k := .u8) rfl 44 _ rfl (byI H) (by rw [← hAa]; rfl) (byI_ne (by rw [← List.length_pos_iff]; omega)) (by rw [byI_length, hH]; decide) ?_)
  intro w1 ra bn sn
  rw [byI_length, hH] at ra
  obtain ⟨gh, hgh⟩ : ∃ n : Nat, n = w.heap.size := ⟨_, rfl⟩
  rw [← hgh] at ra ⊢
  have HB1 : Hid (Below w.heap.size w w1) := bn
  have RA : Hid (RowAt .u8 44 gh 27 (byI H) w1) := ra
  clear bn sn ra hgh hAa hH
  go_wp2_with fail
  refine (awake_any _).mono ?_
  rintro e w2 ⟨rfl, b2⟩
  have HB2 : Hid (Below w.heap.size w w2) := stepB HB1.out b2
  have hk := (RA.out.kept b2).rdB
  rw [HH.out] at hk
  have HK2 : Hid (Rd w2 (.slice (some ⟨gh, 0, none⟩) 27 27) H) := hk
  clear b2 hk RA HB1
  by_cases h1 : m ≤ 1300
  rotate_left
  · have d : decide ((1300 : Int) < (m : Int)) = true := decide_eq_true (by omega)
    clear h1
    go_wp2
    go_ret
    exact ⟨rfl, HB2.out⟩
  have d1 : decide ((1300 : Int) < (m : Int)) = false := decide_eq_false (by omega)
  have HM3 : Hid (b.length ≤ 1300) := (by rw [← HM.out]; exact h1 : b.length ≤ 1300)
  have hand : bits .and .u8 (x.toNat : Int) 7 = ((x &&& 7).toNat : Int) := byte_and x 7
  generalize x &&& 7 = y at hand
  clear h1
  have aN : New 5 w2 (.slice (some ⟨w2.heap.size, 0, none⟩) 1 1) [y] (w2.alloc (.cells #[.int .u8 (y.toNat : Int)] 5)) := New.lit18 y rfl
  have aR : Rd (w2.alloc (.cells #[.int .u8 (y.toNat : Int)] 5)) (.slice (some ⟨gh, 0, none⟩) 27 27) H := HK2.out.kept aN.2
  go_wp2_with (at_builtin; go_must (refine wpList_append_new (w := w2) rfl _ _ 23 rfl 5 Try.underlying23 infoU8 _ _ rfl aN _ _ rfl aR (by rw [HH.out]; simp) ?_))
  intro v3 w3 hN3 _
  have hR3 : Rd w3 (.slice ab m cb) b := HR.out.kept (stepB HB2.out hN3.2)
  clear aN aR
  go_wp2_with (at_builtin; go_must (refine wpList_append_new (w := w2) rfl _ _ 23 rfl 5 Try.underlying23 infoU8 _ _ rfl hN3 _ _ rfl hR3 (by have h3 := HM3.out; have h4 := HH.out; simp; omega) ?_))
  intro v4 w4 hN4 _
  obtain ⟨B, hB⟩ : ∃ B : List UInt8, B = (y :: H) ++ b := ⟨_, rfl⟩
  replace hN4 : New 5 w2 v4 B w4 := by rw [hB]; exact hN4
  have HLe : Hid (B.length ≤ 100000) := by show _ ≤ _; rw [hB]; have h3 := HM3.out; have h4 := HH.out; simp; omega
  obtain ⟨a4, c4, rfl, hc4, hm4, hn4, -⟩ := id hN4.rd
  obtain ⟨N, hN⟩ : ∃ n : Nat, n = B.length := ⟨_, rfl⟩
  have HBw : Hid (Below w.heap.size w w4) := stepB HB2.out hN4.2
  have HRB : Hid (Rd w4 (.slice a4 N c4) B) := (by rw [hN]; exact hN4.rd : Rd w4 (.slice a4 N c4) B)
  have HX : Hid (N ≤ c4 ∧ c4 ≤ maxLen ∧ (a4 = none → c4 = 0)) := ⟨by rw [hN]; exact hc4, hm4, hn4⟩
  have HNl : Hid (N ≤ 100000) := (by rw [hN]; exact HLe.out : N ≤ 100000)
  have hN9 : N ≤ 100000 := HNl.out
  rw [← hN]
  clear hN4 hN3 hR3 hB hc4 hm4 hn4 hN HK2 HR HB2 hand HM HM3 d1 hm2
  go_wp2
  go_loopw [9] (fun i wr => ∃ k : Nat, 13 ≤ k ∧ k ≤ 63 ∧ i = .int .i64 (k : Int) ∧ Below w4.heap.size w4 wr) (fun i _ => 100 - (intOf i).toNat)
  case atStart => exact ⟨13, by decide, by decide, rfl, Below.refl _ _⟩
  case round =>
    obtain ⟨k, hk1, hk2, rfl, hbr⟩ := hrel
    have HBr : Hid (Below w4.heap.size w4 wr) := hbr
    clear hbr
    by_cases hlt : k ≤ N
    · have d1 : decide ((k : Int) ≤ (N : Int)) = true := decide_eq_true (by omega)
      have HXk : Hid (k ≤ N ∧ N ≤ c4 ∧ c4 ≤ maxLen ∧ (a4 = none → c4 = 0)) := ⟨hlt, HX.out.1, HX.out.2.1, HX.out.2.2⟩
      have HLk : Hid ((B.take k).length ≤ 100000) := by show _ ≤ _; rw [List.length_take]; omega
      have HRk : Hid (Rd w4 (.slice a4 k c4) (B.take k)) := Rd.take HRB.out (n := k) hlt
      go_wp2_with (refine wpList_val18 rfl (exec_head _ _ (by rfl) (by rfl) (by rfl) HXk.out.1 HXk.out.2.1 HXk.out.2.2.1 HXk.out.2.2.2) ?_)
      refine (wget_any _ (B.take k) (HLk.out) _ (HRk.out.kept HBr.out)).mono ?_
      rintro e p2 ⟨vm, vb, rfl, hO2⟩
      have HR2 : Hid (Rd p2 (.slice a4 k c4) (B.take k)) := (HRk.out.kept HBr.out).kept hO2.below
      have HB2 : Hid (Below w4.heap.size w4 p2) := stepB HBr.out hO2.below
      have HF : Hid (∀ W, Rd W (.slice a4 k c4) (B.take k) → Calls Try.prog 15 #[(.slice a4 k c4)] W fun e w' => ∃ vm vb, e = .returned (.tuple #[.agg (pkC (gtP (B.take k)).1 vm vb).toArray, .int .i64 (gtP (B.take k)).2]) ∧ PkR w' (gtP (B.take k)).1 vm vb ∧ Below W.heap.size W w') := fun W h => get18_any _ (B.take k) W h
      generalize gtP (B.take k) = G at HF hO2
      obtain ⟨P, E⟩ := G
      replace HF : Hid (∀ W, Rd W (.slice a4 k c4) (B.take k) → Calls Try.prog 15 #[(.slice a4 k c4)] W fun e w' => ∃ vm vb, e = .returned (.tuple #[.agg (pkC P vm vb).toArray, .int .i64 E]) ∧ PkR w' P vm vb ∧ Below W.heap.size W w') := HF.out
      have HP2 : Hid (PkR p2 P vm vb) := pkO.pkR hO2
      simp only
      clear hO2
      obtain ⟨am, cm, rfl, -⟩ := id HP2.out.mac
      obtain ⟨ap, cp, rfl, -⟩ := id HP2.out.body
      obtain ⟨M, hM⟩ : ∃ n : Nat, n = P.mac.length := ⟨_, rfl⟩
      obtain ⟨n, hn⟩ : ∃ n : Nat, n = P.body.length := ⟨_, rfl⟩
      rw [← hM, ← hn] at HP2 ⊢
      clear hM hn
      go_wp2_with (refine wpList_alloc_blk rfl 26 rfl zpk (alloc_wk _) ?_)
      intro p3 r3 b3 s3
      obtain ⟨g, hg⟩ : ∃ n : Nat, n = p2.heap.size := ⟨_, rfl⟩
      rw [← hg] at r3 ⊢
      have HGe : Hid (p2.heap.size ≤ g) := by show _ ≤ _; omega
      clear hg s3
      go_wp2_with (refine wpList_store_part rfl 26 _ _ rfl rfl (pkC P (.slice am M cm) (.slice ap n cp)) rfl [] zpk [] (pkC P (.slice am M cm) (.slice ap n cp)) r3 (by simp) (by simp) rfl rfl info_wk (one_pk _ _ _ _ _ _ _) ?_)
      intro p4 r4 hw4
      have hb4 := hw4.below _ _ HGe.out b3
      have R4 : Hid (BlkAt g 26 (pkC P (.slice am M cm) (.slice ap n cp)) p4) := (by simpa using r4 : BlkAt g 26 (pkC P (.slice am M cm) (.slice ap n cp)) p4)
      have HR4 : Hid (Rd p4 (.slice a4 k c4) (B.take k)) := HR2.out.kept hb4
      have HB4 : Hid (Below w4.heap.size w4 p4) := stepB HB2.out hb4
      have HP4 : Hid (PkR p4 P (.slice am M cm) (.slice ap n cp)) := HP2.out.kept hb4
      clear r3 r4 b3 hw4 hb4 HR2 HB2 HP2
      go_wp2_with (refine wpList_val18 rfl (exec_head _ _ (by rfl) (by rfl) (by rfl) HXk.out.1 HXk.out.2.1 HXk.out.2.2.1 HXk.out.2.2.2) ?_)
      go_wp2_with fail
      refine (HF.out _ HR4.out).mono ?_
      rintro e p5 ⟨um, ub, rfl, hQ5, b5⟩
      have R5 : Hid (BlkAt g 26 (pkC P (.slice am M cm) (.slice ap n cp)) p5) := R4.out.kept b5
      have HB5 : Hid (Below w4.heap.size w4 p5) := stepB HB4.out b5
      have HP5 : Hid (PkR p5 P (.slice am M cm) (.slice ap n cp)) := HP4.out.kept b5
      have HQ5 : Hid (PkR p5 P um ub) := hQ5
      clear hQ5 b5 R4 HB4 HP4 HR4
      obtain ⟨xm, km, rfl, -⟩ := id HQ5.out.mac
      obtain ⟨xp, kp, rfl, -⟩ := id HQ5.out.body
      obtain ⟨M', hM⟩ : ∃ n : Nat, n = P.mac.length := ⟨_, rfl⟩
      obtain ⟨n', hn⟩ : ∃ n : Nat, n = P.body.length := ⟨_, rfl⟩
      rw [← hM, ← hn] at HQ5 ⊢
      clear hM hn
      go_wp2_with (refine wpList_alloc_blk rfl 28 rfl zpk (alloc_pk _) ?_)
      intro p6 r6 b6 s6
      obtain ⟨g2, hg2⟩ : ∃ n : Nat, n = p5.heap.size := ⟨_, rfl⟩
      rw [← hg2] at r6 ⊢
      have HGe2 : Hid (p5.heap.size ≤ g2) := by show _ ≤ _; omega
      clear hg2 s6
      go_wp2_with (refine wpList_store_part rfl 28 _ _ rfl rfl (pkC P (.slice xm M' km) (.slice xp n' kp)) rfl [] zpk [] (pkC P (.slice xm M' km) (.slice xp n' kp)) r6 (by simp) (by simp) rfl rfl info_pk (one_pk _ _ _ _ _ _ _) ?_)
      intro p7 r7 hw7
      have hb7 := hw7.below _ _ HGe2.out b6
      have R7 : Hid (BlkAt g 26 (pkC P (.slice am M cm) (.slice ap n cp)) p7) := R5.out.kept hb7
      have S7 : Hid (BlkAt g2 28 (pkC P (.slice xm M' km) (.slice xp n' kp)) p7) := (by simpa using r7 : BlkAt g2 28 (pkC P (.slice xm M' km) (.slice xp n' kp)) p7)
      have HB7 : Hid (Below w4.heap.size w4 p7) := stepB HB5.out hb7
      have HP7 : Hid (PkR p7 P (.slice am M cm) (.slice ap n cp)) := HP5.out.kept hb7
      have HQ7 : Hid (PkR p7 P (.slice xm M' km) (.slice xp n' kp)) := HQ5.out.kept hb7
      clear r6 r7 b6 hw7 hb7 R5 HB5 HP5 HQ5
      have dE : (E != E) = false := by simp
      have hSm := smB_self P
      go_wp2_with fail
      refine wpG_begin (by kernel_rfl) ?_
      refine gU_ 0 rfl ⟨_, by intro W hW; go_simp <;> with_reducible rfl, ?_⟩
      try simp only [Act.put, pA_, pB_, pC_]
      refine gU_ 1 rfl ⟨_, by intro W hW; go_simp <;> with_reducible rfl, ?_⟩
      try simp only [Act.put, pA_, pB_, pC_]
      refine gU_ 2 rfl ⟨_, by intro W hW; go_simp <;> with_reducible rfl, ?_⟩
      try simp only [Act.put, pA_, pB_, pC_]
      refine gU_ 3 rfl ⟨_, by intro W hW; go_simp <;> with_reducible rfl, ?_⟩
      try simp only [Act.put, pA_, pB_, pC_]
      refine gU_ 4 rfl ⟨_, by intro W hW; exact exec_whole18 _ rfl rfl rfl R7.out.drew hW, ?_⟩
      try simp only [Act.put, pA_, pB_, pC_]
      refine gU_ 6 rfl ⟨_, by intro W hW; exact exec_whole18r _ rfl rfl rfl S7.out.drew hW, ?_⟩
      try simp only [Act.put, pA_, pB_, pC_]
      refine gD_ 5 fun K hK => ?_
      go_simp
      refine (model18_any P _ _ _ rfl _ (HP7.out.kept (Below.refl _ _).drew)).mono ?_
      rintro e p8 ⟨rfl, b8⟩
      refine hK.out _ _ b8 ?_
      clear hK K
      try simp only [Act.put, pA_, pB_, pC_]
      refine gD_ 7 fun K hK => ?_
      go_simp
      refine (same18_any P P _ _ _ _ _ _ rfl rfl _ (HP7.out.kept (stepB (Below.refl _ _).drew b8)) (HQ7.out.kept (stepB (Below.refl _ _).drew b8))).mono ?_
      rintro e p9 ⟨rfl, b9⟩
      rw [hSm]
      refine hK.out _ _ b9 ?_
      clear hK K
      try simp only [Act.put, pA_, pB_, pC_]
      refine gU_ 8 rfl ⟨_, by intro W hW; go_simp <;> with_reducible rfl, ?_⟩
      try simp only [Act.put, pA_, pB_, pC_]
      refine gU_ 9 rfl ⟨_, by intro W hW; go_simp <;> with_reducible rfl, ?_⟩
      try simp only [Act.put, pA_, pB_, pC_]
      refine wpG_done (by kernel_rfl) ?_
      have HB9 : Hid (Below w4.heap.size w4 p9) := stepB (stepB HB7.out.drew b8) b9
      clear b8 b9 R7 S7 HP7 HQ7 HB7 HF dE hSm HGe HGe2
      clear HXk HLk HRk hlt d1
      by_cases h60 : 60 < k
      rotate_left
      · have d6 : decide ((60 : Int) < (k : Int)) = false := decide_eq_false (by omega)
        go_wp2
        go_roundw
        case rel => exact ⟨k + 3, by omega, by omega, by go_num, HB9.out⟩
        case measure => simp [intOf]; omega
      have d6 : decide ((60 : Int) < (k : Int)) = true := decide_eq_true (by omega)
      go_wp2_with fail
      clear d6 h60 HBr
      have HBr : Hid (Below w4.heap.size w4 p9) := HB9.out
      clear HB9
      refine (wget_any _ (B) (HLe.out) _ (HRB.out.kept HBr.out)).mono ?_
      rintro e p2 ⟨vm, vb, rfl, hO2⟩
      have HR2 : Hid (Rd p2 (.slice a4 N c4) (B)) := (HRB.out.kept HBr.out).kept hO2.below
      have HB2 : Hid (Below w4.heap.size w4 p2) := stepB HBr.out hO2.below
      have HF : Hid (∀ W, Rd W (.slice a4 N c4) (B) → Calls Try.prog 15 #[(.slice a4 N c4)] W fun e w' => ∃ vm vb, e = .returned (.tuple #[.agg (pkC (gtP (B)).1 vm vb).toArray, .int .i64 (gtP (B)).2]) ∧ PkR w' (gtP (B)).1 vm vb ∧ Below W.heap.size W w') := fun W h => get18_any _ (B) W h
      generalize gtP (B) = G at HF hO2
      obtain ⟨P, E⟩ := G
      replace HF : Hid (∀ W, Rd W (.slice a4 N c4) (B) → Calls Try.prog 15 #[(.slice a4 N c4)] W fun e w' => ∃ vm vb, e = .returned (.tuple #[.agg (pkC P vm vb).toArray, .int .i64 E]) ∧ PkR w' P vm vb ∧ Below W.heap.size W w') := HF.out
      have HP2 : Hid (PkR p2 P vm vb) := pkO.pkR hO2
      simp only
      clear hO2
      obtain ⟨am, cm, rfl, -⟩ := id HP2.out.mac
      obtain ⟨ap, cp, rfl, -⟩ := id HP2.out.body
      obtain ⟨M, hM⟩ : ∃ n : Nat, n = P.mac.length := ⟨_, rfl⟩
      obtain ⟨n, hn⟩ : ∃ n : Nat, n = P.body.length := ⟨_, rfl⟩
      rw [← hM, ← hn] at HP2 ⊢
      clear hM hn
      go_wp2_with (refine wpList_alloc_blk rfl 26 rfl zpk (alloc_wk _) ?_)
      intro p3 r3 b3 s3
      obtain ⟨g, hg⟩ : ∃ n : Nat, n = p2.heap.size := ⟨_, rfl⟩
      rw [← hg] at r3 ⊢
      have HGe : Hid (p2.heap.size ≤ g) := by show _ ≤ _; omega
      clear hg s3
      go_wp2_with (refine wpList_store_part rfl 26 _ _ rfl rfl (pkC P (.slice am M cm) (.slice ap n cp)) rfl [] zpk [] (pkC P (.slice am M cm) (.slice ap n cp)) r3 (by simp) (by simp) rfl rfl info_wk (one_pk _ _ _ _ _ _ _) ?_)
      intro p4 r4 hw4
      have hb4 := hw4.below _ _ HGe.out b3
      have R4 : Hid (BlkAt g 26 (pkC P (.slice am M cm) (.slice ap n cp)) p4) := (by simpa using r4 : BlkAt g 26 (pkC P (.slice am M cm) (.slice ap n cp)) p4)
      have HR4 : Hid (Rd p4 (.slice a4 N c4) (B)) := HR2.out.kept hb4
      have HB4 : Hid (Below w4.heap.size w4 p4) := stepB HB2.out hb4
      have HP4 : Hid (PkR p4 P (.slice am M cm) (.slice ap n cp)) := HP2.out.kept hb4
      clear r3 r4 b3 hw4 hb4 HR2 HB2 HP2
      go_wp2_with fail
      refine (HF.out _ HR4.out).mono ?_
      rintro e p5 ⟨um, ub, rfl, hQ5, b5⟩
      have R5 : Hid (BlkAt g 26 (pkC P (.slice am M cm) (.slice ap n cp)) p5) := R4.out.kept b5
      have HB5 : Hid (Below w4.heap.size w4 p5) := stepB HB4.out b5
      have HP5 : Hid (PkR p5 P (.slice am M cm) (.slice ap n cp)) := HP4.out.kept b5
      have HQ5 : Hid (PkR p5 P um ub) := hQ5
      clear hQ5 b5 R4 HB4 HP4 HR4
      obtain ⟨xm, km, rfl, -⟩ := id HQ5.out.mac
      obtain ⟨xp, kp, rfl, -⟩ := id HQ5.out.body
      obtain ⟨M', hM⟩ : ∃ n : Nat, n = P.mac.length := ⟨_, rfl⟩
      obtain ⟨n', hn⟩ : ∃ n : Nat, n = P.body.length := ⟨_, rfl⟩
      rw [← hM, ← hn] at HQ5 ⊢
      clear hM hn
      go_wp2_with (refine wpList_alloc_blk rfl 28 rfl zpk (alloc_pk _) ?_)
      intro p6 r6 b6 s6
      obtain ⟨g2, hg2⟩ : ∃ n : Nat, n = p5.heap.size := ⟨_, rfl⟩
      rw [← hg2] at r6 ⊢
      have HGe2 : Hid (p5.heap.size ≤ g2) := by show _ ≤ _; omega
      clear hg2 s6
      go_wp2_with (refine wpList_store_part rfl 28 _ _ rfl rfl (pkC P (.slice xm M' km) (.slice xp n' kp)) rfl [] zpk [] (pkC P (.slice xm M' km) (.slice xp n' kp)) r6 (by simp) (by simp) rfl rfl info_pk (one_pk _ _ _ _ _ _ _) ?_)
      intro p7 r7 hw7
      have hb7 := hw7.below _ _ HGe2.out b6
      have R7 : Hid (BlkAt g 26 (pkC P (.slice am M cm) (.slice ap n cp)) p7) := R5.out.kept hb7
      have S7 : Hid (BlkAt g2 28 (pkC P (.slice xm M' km) (.slice xp n' kp)) p7) := (by simpa using r7 : BlkAt g2 28 (pkC P (.slice xm M' km) (.slice xp n' kp)) p7)
      have HB7 : Hid (Below w4.heap.size w4 p7) := stepB HB5.out hb7
      have HP7 : Hid (PkR p7 P (.slice am M cm) (.slice ap n cp)) := HP5.out.kept hb7
      have HQ7 : Hid (PkR p7 P (.slice xm M' km) (.slice xp n' kp)) := HQ5.out.kept hb7
      clear r6 r7 b6 hw7 hb7 R5 HB5 HP5 HQ5
      have dE : (E == E) = true := by simp
      have hSm := smB_self P
      go_wp2_with fail
      refine wpG_begin (by kernel_rfl) ?_
      refine gU_ 0 rfl ⟨_, by intro W hW; go_simp <;> with_reducible rfl, ?_⟩
      try simp only [Act.put, pA_, pB_, pC_]
      refine gU_ 1 rfl ⟨_, by intro W hW; go_simp <;> with_reducible rfl, ?_⟩
      try simp only [Act.put, pA_, pB_, pC_]
      refine gU_ 2 rfl ⟨_, by intro W hW; go_simp <;> with_reducible rfl, ?_⟩
      try simp only [Act.put, pA_, pB_, pC_]
      refine gU_ 3 rfl ⟨_, by intro W hW; go_simp <;> with_reducible rfl, ?_⟩
      try simp only [Act.put, pA_, pB_, pC_]
      refine gU_ 4 rfl ⟨_, by intro W hW; exact exec_whole18 _ rfl rfl rfl R7.out.drew hW, ?_⟩
      try simp only [Act.put, pA_, pB_, pC_]
      refine gU_ 6 rfl ⟨_, by intro W hW; exact exec_whole18r _ rfl rfl rfl S7.out.drew hW, ?_⟩
      try simp only [Act.put, pA_, pB_, pC_]
      refine gD_ 5 fun K hK => ?_
      go_simp
      refine (model18_any P _ _ _ rfl _ (HP7.out.kept (Below.refl _ _).drew)).mono ?_
      rintro e p8 ⟨rfl, b8⟩
      refine hK.out _ _ b8 ?_
      clear hK K
      try simp only [Act.put, pA_, pB_, pC_]
      refine gD_ 7 fun K hK => ?_
      go_simp
      refine (same18_any P P _ _ _ _ _ _ rfl rfl _ (HP7.out.kept (stepB (Below.refl _ _).drew b8)) (HQ7.out.kept (stepB (Below.refl _ _).drew b8))).mono ?_
      rintro e p9 ⟨rfl, b9⟩
      rw [hSm]
      refine hK.out _ _ b9 ?_
      clear hK K
      try simp only [Act.put, pA_, pB_, pC_]
      refine gU_ 8 rfl ⟨_, by intro W hW; go_simp <;> with_reducible rfl, ?_⟩
      try simp only [Act.put, pA_, pB_, pC_]
      refine gU_ 9 rfl ⟨_, by intro W hW; go_simp <;> with_reducible rfl, ?_⟩
      try simp only [Act.put, pA_, pB_, pC_]
      refine wpG_done (by kernel_rfl) ?_
      have HB9 : Hid (Below w4.heap.size w4 p9) := stepB (stepB HB7.out.drew b8) b9
      clear b8 b9 R7 S7 HP7 HQ7 HB7 HF dE hSm HGe HGe2
      go_wp2
      go_ret
      exact ⟨rfl, stepB HBw.out HB9.out⟩
    · have d1 : decide ((k : Int) ≤ (N : Int)) = false := decide_eq_false (by omega)
      have d2 : decide (k ≤ N) = false := decide_eq_false hlt
      go_wp2_with fail
      clear hlt d1 d2
      refine (wget_any _ (B) (HLe.out) _ (HRB.out.kept HBr.out)).mono ?_
      rintro e p2 ⟨vm, vb, rfl, hO2⟩
      have HR2 : Hid (Rd p2 (.slice a4 N c4) (B)) := (HRB.out.kept HBr.out).kept hO2.below
      have HB2 : Hid (Below w4.heap.size w4 p2) := stepB HBr.out hO2.below
      have HF : Hid (∀ W, Rd W (.slice a4 N c4) (B) → Calls Try.prog 15 #[(.slice a4 N c4)] W fun e w' => ∃ vm vb, e = .returned (.tuple #[.agg (pkC (gtP (B)).1 vm vb).toArray, .int .i64 (gtP (B)).2]) ∧ PkR w' (gtP (B)).1 vm vb ∧ Below W.heap.size W w') := fun W h => get18_any _ (B) W h
      generalize gtP (B) = G at HF hO2
      obtain ⟨P, E⟩ := G
      replace HF : Hid (∀ W, Rd W (.slice a4 N c4) (B) → Calls Try.prog 15 #[(.slice a4 N c4)] W fun e w' => ∃ vm vb, e = .returned (.tuple #[.agg (pkC P vm vb).toArray, .int .i64 E]) ∧ PkR w' P vm vb ∧ Below W.heap.size W w') := HF.out
      have HP2 : Hid (PkR p2 P vm vb) := pkO.pkR hO2
      simp only
      clear hO2
      obtain ⟨am, cm, rfl, -⟩ := id HP2.out.mac
      obtain ⟨ap, cp, rfl, -⟩ := id HP2.out.body
      obtain ⟨M, hM⟩ : ∃ n : Nat, n = P.mac.length := ⟨_, rfl⟩
      obtain ⟨n, hn⟩ : ∃ n : Nat, n = P.body.length := ⟨_, rfl⟩
      rw [← hM, ← hn] at HP2 ⊢
      clear hM hn
      go_wp2_with (refine wpList_alloc_blk rfl 26 rfl zpk (alloc_wk _) ?_)
      intro p3 r3 b3 s3
      obtain ⟨g, hg⟩ : ∃ n : Nat, n = p2.heap.size := ⟨_, rfl⟩
      rw [← hg] at r3 ⊢
      have HGe : Hid (p2.heap.size ≤ g) := by show _ ≤ _; omega
      clear hg s3
      go_wp2_with (refine wpList_store_part rfl 26 _ _ rfl rfl (pkC P (.slice am M cm) (.slice ap n cp)) rfl [] zpk [] (pkC P (.slice am M cm) (.slice ap n cp)) r3 (by simp) (by simp) rfl rfl info_wk (one_pk _ _ _ _ _ _ _) ?_)
      intro p4 r4 hw4
      have hb4 := hw4.below _ _ HGe.out b3
      have R4 : Hid (BlkAt g 26 (pkC P (.slice am M cm) (.slice ap n cp)) p4) := (by simpa using r4 : BlkAt g 26 (pkC P (.slice am M cm) (.slice ap n cp)) p4)
      have HR4 : Hid (Rd p4 (.slice a4 N c4) (B)) := HR2.out.kept hb4
      have HB4 : Hid (Below w4.heap.size w4 p4) := stepB HB2.out hb4
      have HP4 : Hid (PkR p4 P (.slice am M cm) (.slice ap n cp)) := HP2.out.kept hb4
      clear r3 r4 b3 hw4 hb4 HR2 HB2 HP2
      go_wp2_with fail
      refine (HF.out _ HR4.out).mono ?_
      rintro e p5 ⟨um, ub, rfl, hQ5, b5⟩
      have R5 : Hid (BlkAt g 26 (pkC P (.slice am M cm) (.slice ap n cp)) p5) := R4.out.kept b5
      have HB5 : Hid (Below w4.heap.size w4 p5) := stepB HB4.out b5
      have HP5 : Hid (PkR p5 P (.slice am M cm) (.slice ap n cp)) := HP4.out.kept b5
      have HQ5 : Hid (PkR p5 P um ub) := hQ5
      clear hQ5 b5 R4 HB4 HP4 HR4
      obtain ⟨xm, km, rfl, -⟩ := id HQ5.out.mac
      obtain ⟨xp, kp, rfl, -⟩ := id HQ5.out.body
      obtain ⟨M', hM⟩ : ∃ n : Nat, n = P.mac.length := ⟨_, rfl⟩
      obtain ⟨n', hn⟩ : ∃ n : Nat, n = P.body.length := ⟨_, rfl⟩
      rw [← hM, ← hn] at HQ5 ⊢
      clear hM hn
      go_wp2_with (refine wpList_alloc_blk rfl 28 rfl zpk (alloc_pk _) ?_)
      intro p6 r6 b6 s6
      obtain ⟨g2, hg2⟩ : ∃ n : Nat, n = p5.heap.size := ⟨_, rfl⟩
      rw [← hg2] at r6 ⊢
      have HGe2 : Hid (p5.heap.size ≤ g2) := by show _ ≤ _; omega
      clear hg2 s6
      go_wp2_with (refine wpList_store_part rfl 28 _ _ rfl rfl (pkC P (.slice xm M' km) (.slice xp n' kp)) rfl [] zpk [] (pkC P (.slice xm M' km) (.slice xp n' kp)) r6 (by simp) (by simp) rfl rfl info_pk (one_pk _ _ _ _ _ _ _) ?_)
      intro p7 r7 hw7
      have hb7 := hw7.below _ _ HGe2.out b6
      have R7 : Hid (BlkAt g 26 (pkC P (.slice am M cm) (.slice ap n cp)) p7) := R5.out.kept hb7
      have S7 : Hid (BlkAt g2 28 (pkC P (.slice xm M' km) (.slice xp n' kp)) p7) := (by simpa using r7 : BlkAt g2 28 (pkC P (.slice xm M' km) (.slice xp n' kp)) p7)
      have HB7 : Hid (Below w4.heap.size w4 p7) := stepB HB5.out hb7
      have HP7 : Hid (PkR p7 P (.slice am M cm) (.slice ap n cp)) := HP5.out.kept hb7
      have HQ7 : Hid (PkR p7 P (.slice xm M' km) (.slice xp n' kp)) := HQ5.out.kept hb7
      clear r6 r7 b6 hw7 hb7 R5 HB5 HP5 HQ5
      have dE : (E == E) = true := by simp
      have hSm := smB_self P
      go_wp2_with fail
      refine wpG_begin (by kernel_rfl) ?_
      refine gU_ 0 rfl ⟨_, by intro W hW; go_simp <;> with_reducible rfl, ?_⟩
      try simp only [Act.put, pA_, pB_, pC_]
      refine gU_ 1 rfl ⟨_, by intro W hW; go_simp <;> with_reducible rfl, ?_⟩
      try simp only [Act.put, pA_, pB_, pC_]
      refine gU_ 2 rfl ⟨_, by intro W hW; go_simp <;> with_reducible rfl, ?_⟩
      try simp only [Act.put, pA_, pB_, pC_]
      refine gU_ 3 rfl ⟨_, by intro W hW; go_simp <;> with_reducible rfl, ?_⟩
      try simp only [Act.put, pA_, pB_, pC_]
      refine gU_ 4 rfl ⟨_, by intro W hW; exact exec_whole18 _ rfl rfl rfl R7.out.drew hW, ?_⟩
      try simp only [Act.put, pA_, pB_, pC_]
      refine gU_ 6 rfl ⟨_, by intro W hW; exact exec_whole18r _ rfl rfl rfl S7.out.drew hW, ?_⟩
      try simp only [Act.put, pA_, pB_, pC_]
      refine gD_ 5 fun K hK => ?_
      go_simp
      refine (model18_any P _ _ _ rfl _ (HP7.out.kept (Below.refl _ _).drew)).mono ?_
      rintro e p8 ⟨rfl, b8⟩
      refine hK.out _ _ b8 ?_
      clear hK K
      try simp only [Act.put, pA_, pB_, pC_]
      refine gD_ 7 fun K hK => ?_
      go_simp
      refine (same18_any P P _ _ _ _ _ _ rfl rfl _ (HP7.out.kept (stepB (Below.refl _ _).drew b8)) (HQ7.out.kept (stepB (Below.refl _ _).drew b8))).mono ?_
      rintro e p9 ⟨rfl, b9⟩
      rw [hSm]
      refine hK.out _ _ b9 ?_
      clear hK K
      try simp only [Act.put, pA_, pB_, pC_]
      refine gU_ 8 rfl ⟨_, by intro W hW; go_simp <;> with_reducible rfl, ?_⟩
      try simp only [Act.put, pA_, pB_, pC_]
      refine gU_ 9 rfl ⟨_, by intro W hW; go_simp <;> with_reducible rfl, ?_⟩
      try simp only [Act.put, pA_, pB_, pC_]
      refine wpG_done (by kernel_rfl) ?_
      have HB9 : Hid (Below w4.heap.size w4 p9) := stepB (stepB HB7.out.drew b8) b9
      clear b8 b9 R7 S7 HP7 HQ7 HB7 HF dE hSm HGe HGe2
      go_wp2
      go_ret
      exact ⟨rfl, stepB HBw.out HB9.out⟩
end Go.Proofs.Ytonnngndknoljaa
