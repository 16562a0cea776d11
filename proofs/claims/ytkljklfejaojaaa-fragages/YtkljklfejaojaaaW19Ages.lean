/- A piece that came so long ago: the law's walk. -/
import Derived.Test.YtkljklfejaojaaaRk19
import Derived.Test.YtkljklfejaojaaaFgMath5
namespace Go.Proofs.Ytkljklfejaojaaa
open Go.ChangeShapes Go.WideShapes Go.ChangeAt Go.RowKit
set_option linter.unusedSimpArgs false
set_option linter.unusedVariables false

theorem nat19 {a : Int} (h : (Lit.int .u64 a).wf = true) : ∃ n : Nat, a = (n : Int) ∧ n < 18446744073709551616 := by
  have h2 : 0 ≤ a ∧ a < 18446744073709551616 := by
    simp [Lit.wf, IntKind.min, IntKind.max, IntKind.bits, IntKind.signed] at h
    omega
  exact ⟨a.toNat, by omega, by omega⟩
theorem Rd.keptD {w W : World} {v : Value} {l : List UInt8} (h : Rd w v l) (hb : Below w.drew.heap.size w.drew W) : Rd W v l := h.kept (stepB (Below.refl _ _).drew hb)

/-- A variable is made in a region whose order is open. -/
theorem wp_alloc_b19 {P : Program} {w0 : World} {op : Oper} {a : Act} {w : World} {K : Act → World → Prop} {Q : Exit → Act → World → Prop} (hB : Below w0.heap.size w0 w) (ty : TypeId) (ho : op.op = .alloc ty) (cs : List Value)
    (hrun : (Instr.alloc ty true (.tuple #[])).run P w = .ok (.pointer (some ⟨w.heap.size, 0, none⟩)) (w.alloc (.cells cs.toArray ty)))
    (h : ∀ g w', BlkAt g ty cs w' → w0.heap.size ≤ g → Below w0.heap.size w0 w' → Below w.heap.size w w' → w.heap.size ≤ g → K (a.put op.dst (.pointer (some ⟨g, 0, none⟩))) w') : op.wp P a w K Q := by
  unfold Oper.wp execOp
  simp only [ho, Sem.run_bind, hrun, Result.andThen_ok, Sem.run_pure]
  exact h _ _ (BlkAt.fresh rfl rfl) hB.size (stepB hB (growB _)) (growB _) (Nat.le_refl _)
theorem EnR.nil19 (w : World) {l : List Ent} (h : l = []) : EnR w (.slice none 0 0) l := by
  subst h
  exact ⟨[], rfl, RdE.nil w 4, fun k hk => by simp at hk⟩
set_option maxRecDepth 100000 in
set_option maxHeartbeats 16000000 in
theorem ages_walk (age first second n : Int) (ha : (Lit.int .u64 age).wf = true) (hf : (Lit.int .u64 first).wf = true) (hs : (Lit.int .u64 second).wf = true) (w : World) :
    Calls Try.prog 7 #[.int .u64 age, .int .u64 first, .int .u64 second, .int .i64 n] w fun e w' => e = .returned (.bool true) ∧ Below w.heap.size w w' := by
  obtain ⟨age, rfl, -⟩ := nat19 ha
  obtain ⟨first, rfl, hf2⟩ := nat19 hf
  obtain ⟨second, rfl, hs2⟩ := nat19 hs
  have HF : Hid (first < 18446744073709551616) := hf2
  have HS : Hid (second < 18446744073709551616) := hs2
  obtain ⟨X, hX, hand⟩ := and_small n 511 (by decide)
  have hand2 : bits .and .i64 n 511 = (X : Int) := hand
  obtain ⟨T, hT⟩ : ∃ T, T = 1 + X := ⟨_, rfl⟩
  have hw : IntKind.i64.wrap (1 + (X : Int)) = (T : Int) := by rw [IntWalk.i64_in _ (by omega)]; omega
  have HT : Hid (1 ≤ T ∧ T ≤ 512) := ⟨by omega, by omega⟩
  have hTI : (T : Int) ≤ 1024 := by omega
  clear ha hf hs hf2 hs2 hand hX hT
  go_enter Try.func7, Try.ntmps7
  go_wp2_with fail
  refine (awake_any w).mono ?_
  rintro e w1 ⟨rfl, b1⟩
  have HB1 : Hid (Below w.heap.size w w1) := b1
  have hbl := build_l19c age 9000 9000 w1
  clear b1
  go_wp2_with fail
  refine (new_any 9000 9000 age w1).mono ?_
  rintro e w2 ⟨gb, rfl, hgb, hbk, b2⟩
  obtain ⟨B0, hB0⟩ : ∃ B0, B0 = nwF 9000 9000 age := ⟨_, rfl⟩
  rw [← hB0] at hbk
  have HLim : Hid (LimB B0) := by show LimB _; rw [hB0]; exact LimB.nw (by decide) (by decide) _
  have HE0 : Hid (B0.l = []) := by show _ = _; rw [hB0]; rfl
  have HBk : Hid (BlkAt gb 63 (buK B0 (.slice none 0 0)) w2 ∧ w1.heap.size ≤ gb) := ⟨hbk, hgb⟩
  have HN0 : Hid (Calls Try.prog 12 #[.int .i64 9000, .int .i64 9000, .int .u64 (age : Int)] w2 fun r w' => r = .returned (.agg (bfD B0 (.slice none 0 0)).toArray) ∧ Below w2.heap.size w2 w') := by
    have := new19_any 9000 9000 age w2
    rw [← hB0] at this
    exact this
  have HB2 : Hid (Below w1.heap.size w1 w2) := b2
  clear hB0 hgb hbk b2 hbl
  go_wp2_with fail
  refine Calls.mono HN0.out ?_
  rintro e w3 ⟨rfl, b3⟩
  have HB3 : Hid (Below w1.heap.size w1 w3) := stepB HB2.out b3
  have HBk3 : Hid (BlkAt gb 63 (buK B0 (.slice none 0 0)) w3 ∧ w1.heap.size ≤ gb) := ⟨BlkAt.kept HBk.out.1 b3, HBk.out.2⟩
  clear b3 HBk HB2 HN0
  go_wp2_with (first
    | (refine wpList_alloc_blk rfl 40 rfl zbD (alloc_bf _) ?_; intro wa ra ba sa)
    | (refine wpList_store_part rfl 40 _ _ rfl rfl (bfD B0 (.slice none 0 0)) rfl [] zbD [] (bfD B0 (.slice none 0 0)) ra rfl rfl rfl rfl (infoBf B0 (.slice none 0 0)) (bfD_one _ _ _ _) ?_; intro w4 r4 hw4)
    | (refine wpList_make19 rfl _ _ 22 rfl Try.underlying22 info5 1024 rfl rfl (by decide) ?_; intro w5 hN5))
  have b34 : Below w3.heap.size w3 w4 := hw4.below _ _ (Nat.le_refl _) ba
  obtain ⟨g11, hg11⟩ : ∃ g, g = w3.heap.size := ⟨_, rfl⟩
  rw [← hg11] at r4 ⊢
  have HR4 : Hid (BlkAt g11 40 (bfD B0 (.slice none 0 0)) w4) := r4
  have HGe11 : Hid (w1.heap.size ≤ g11) := by have := HB3.out.size; show _ ≤ _; omega
  have HB4 : Hid (Below w1.heap.size w1 w4) := stepB HB3.out b34
  have HBk4 : Hid (BlkAt gb 63 (buK B0 (.slice none 0 0)) w4 ∧ w1.heap.size ≤ gb) := ⟨BlkAt.kept HBk3.out.1 b34, HBk3.out.2⟩
  clear hg11 r4 hw4 ra ba sa b34 HB3 HBk3
  obtain ⟨g5, hg5⟩ : ∃ g, g = w4.heap.size := ⟨_, rfl⟩
  have hgl := hN5.1.lt g5 (by rw [hg5]; rfl)
  rw [← hg5] at hN5 ⊢
  have HOw5 : Hid (Rd w5 (.slice (some ⟨g5, 0, none⟩) 1024 1024) (nzF 1024)) := hN5.rd
  have HG5 : Hid (g5 < w5.heap.size) := hgl.2
  have HNe : Hid (g5 ≠ g11) := by have := BlkAt.lt HR4.out; show g5 ≠ g11; omega
  have HB5 : Hid (Below w1.heap.size w1 w5) := stepB HB4.out hN5.2
  have HR5 : Hid (BlkAt g11 40 (bfD B0 (.slice none 0 0)) w5) := BlkAt.kept HR4.out hN5.2
  have HBu5 : Hid (BuP (fun k => w1.heap.size ≤ k ∧ k ≠ g5) w5 gb B0) := BuP.start (BlkAt.kept HBk4.out.1 hN5.2) ⟨HBk4.out.2, by have := BlkAt.lt HBk4.out.1; omega⟩ HE0.out
  have HOut : Hid (∀ l : List UInt8, ∀ n c, OutK (fun k => w1.heap.size ≤ k ∧ k ≠ g5) (.slice (some ⟨g5, 0, none⟩) n c) l) := by
    show ∀ l, _
    intro l n c b o m k e _ hk
    simp only [Value.slice.injEq, Option.some.injEq, Addr.mk.injEq] at e
    exact hk.2 e.1.1.symm
  clear hg5 hgl hN5 HB4 HR4 HBk4
  obtain ⟨R1, hR1⟩ : ∃ R, R = adF B0 [112] 1 0 2 (nzF 1024) first := ⟨_, rfl⟩
  have hen := EnS.adF (b := B0) (by rw [HE0.out]; exact fun e he => by cases he) (p := [112]) (by decide) 1 0 2 (nzF 1024) (now := first) HF.out
  rw [← hR1, HE0.out] at hen
  have HEn1 : Hid (EnS R1.1.l ∧ R1.1.l.length ≤ 1) := hen
  have hl1 := HLim.out.ad [112] 1 0 2 (nzF 1024) first
  rw [← hR1] at hl1
  have HLim1 : Hid (LimB R1.1) := hl1
  have hadd := add_any B0 (by rw [HE0.out]; exact fun e he => by cases he) (by rw [HE0.out]; decide) HLim.out [112] (by decide) 1 0 2 (nzF 1024) (.slice (some ⟨g5, 0, none⟩) 1024 1024) first HF.out gb (fun k => w1.heap.size ≤ k ∧ k ≠ g5) w5 (fun q hq => ⟨Nat.le_trans HB5.out.size hq, by have := HG5.out; omega⟩) HBu5.out HOw5.out (HOut.out _ _ _)
  rw [← hR1] at hadd
  have HAdd : Hid _ := hadd
  have HRef1 : Hid (∀ W, EnR W (.slice none 0 0) B0.l → Rd W (.slice (some ⟨g5, 0, none⟩) 1024 1024) (nzF 1024) → Calls Try.prog 18 #[.agg (bfD B0 (.slice none 0 0)).toArray, .string ⟨[112].toArray⟩, .int .i64 1, .int .i64 0, .int .i64 2, .slice (some ⟨g5, 0, none⟩) 1024 1024, .int .u64 (first : Int)] W fun r w' => ∃ v', r = .returned (.tuple #[.agg (bfD R1.1 v').toArray, .string ⟨R1.2.1.toArray⟩, .int .i64 R1.2.2]) ∧ EnR w' v' R1.1.l ∧ Below W.heap.size W w') := by
    show ∀ W, _
    intro W hE hR
    rw [hR1]
    exact add19_any B0 (by rw [HE0.out]; decide) (by rw [HE0.out]; exact fun e he => by cases he) [112] (by decide) 1 0 2 (nzF 1024) first HF.out _ _ _ rfl W hE hR
  clear hR1 hen hl1 hadd
  refine Calls.mono HAdd.out ?_
  rintro e w6 ⟨v6, rfl, -, hBu6, c6⟩
  have HBu6 : Hid (BuP (fun k => w1.heap.size ≤ k ∧ k ≠ g5) w6 gb R1.1) := hBu6
  have HB6 : Hid (Below w1.heap.size w1 w6) := Chg.below HB5.out c6.chg HB5.out.size fun k _ hk => hk.1
  have HOw6 : Hid (Rd w6 (.slice (some ⟨g5, 0, none⟩) 1024 1024) (nzF 1024)) := HOw5.out.chgF c6.chg (HOut.out _ _ _)
  have HR6 : Hid (BlkAt g11 40 (bfD B0 (.slice none 0 0)) w6) := c6.oth _ _ _ HR5.out (by decide) (by decide) (by decide)
  have HG6 : Hid (g5 < w6.heap.size) := Nat.lt_of_lt_of_le HG5.out c6.size
  clear hBu6 c6 HAdd HBu5 HB5 HOw5 HR5 HG5
  go_wp2_with (first | refine wpList_load_part rfl 40 _ rfl rfl [] (bfD B0 (.slice none 0 0)) [] HR6.out (by simp) rfl Try.underlying40 rfl (infoBf _ _) ?_)
  refine (HRef1.out _ (EnR.nil19 _ HE0.out) HOw6.out).mono ?_
  rintro e w7 ⟨v7, rfl, hE7, b7⟩
  obtain ⟨a7, k7, rfl, -, -⟩ := hE7.len
  obtain ⟨n7, hn7⟩ : ∃ n, n = R1.1.l.length := ⟨_, rfl⟩
  rw [← hn7] at hE7 ⊢
  have HE7 : Hid (EnR w7 (.slice a7 n7 k7) R1.1.l) := hE7
  have HR7 : Hid (BlkAt g11 40 (bfD B0 (.slice none 0 0)) w7) := BlkAt.kept HR6.out b7
  have HB67 : Hid (Below w6.heap.size w6 w7) := b7
  clear hE7 hn7 b7 HRef1
  go_wp2_with (refine wpList_store_part rfl 40 _ _ rfl rfl (bfD R1.1 (.slice a7 n7 k7)) rfl [] (bfD B0 (.slice none 0 0)) [] (bfD R1.1 (.slice a7 n7 k7)) HR7.out (by simp) (by simp) rfl rfl (infoBf B0 (.slice none 0 0)) (bfD_one _ _ _ _) ?_)
  intro w8 r8 hw8
  have hcw := Chg.of_wrote hw8
  have HBu8 : Hid (BuP (fun k => w1.heap.size ≤ k ∧ k ≠ g5) w8 gb R1.1) := (HBu6.out.kept HB67.out).pastT HR7.out (by decide) (by decide) (by decide) (by decide) (by decide) hcw
  have HE8 : Hid (EnR w8 (.slice a7 n7 k7) R1.1.l) := HE7.out.past HR7.out (bfD_no _ _ _ _) hcw
  have HOw8 : Hid (Rd w8 (.slice (some ⟨g5, 0, none⟩) 1024 1024) (nzF 1024)) := by
    refine (HOw6.out.kept HB67.out).chgF hcw fun b o m k e _ hk => ?_
    simp only [Value.slice.injEq, Option.some.injEq, Addr.mk.injEq] at e
    exact HNe.out (e.1.1.trans hk)
  have HB8 : Hid (Below w1.heap.size w1 w8) := hw8.below _ _ HGe11.out (HB6.out.trans (HB67.out.mono HB6.out.size))
  have HG8 : Hid (g5 < w8.heap.size) := by have := HG6.out; have := HB67.out.size; have := hcw.size; show _ < _; omega
  have HR8 : Hid (BlkAt g11 40 (bfD R1.1 (.slice a7 n7 k7)) w8) := r8
  have HOwT : Hid (∀ W, Rd W (.slice (some ⟨g5, 0, none⟩) 1024 1024) (nzF 1024) → Rd W (.slice (some ⟨g5, 0, none⟩) T 1024) ((nzF 1024).take T)) := fun W h => Rd.take h (by have := HT.out; omega)
  obtain ⟨bd, hbd⟩ : ∃ bd, bd = (nzF 1024).take T := ⟨_, rfl⟩
  rw [← hbd] at HOwT
  obtain ⟨R2, hR2⟩ : ∃ R, R = adF R1.1 [112] 1 1 2 bd second := ⟨_, rfl⟩
  have hadd := add_any R1.1 HEn1.out.1 (by have := HEn1.out.2; omega) HLim1.out [112] (by decide) 1 1 2 bd (.slice (some ⟨g5, 0, none⟩) T 1024) second HS.out gb (fun k => w1.heap.size ≤ k ∧ k ≠ g5) w8 (fun q hq => ⟨Nat.le_trans HB8.out.size hq, by have := HG8.out; omega⟩) HBu8.out (HOwT.out _ HOw8.out) (HOut.out _ _ _)
  rw [← hR2] at hadd
  have HAdd : Hid (Calls Try.prog 17 #[pV gb, .string ⟨[112].toArray⟩, .int .i64 1, .int .i64 1, .int .i64 2, .slice (some ⟨g5, 0, none⟩) T 1024, .int .u64 (second : Int)] w8 fun e w' => ∃ v, e = .returned (.tuple #[v, .int .i64 R2.2.2]) ∧ Rd w' v R2.2.1 ∧ BuP (fun k => w1.heap.size ≤ k ∧ k ≠ g5) w' gb R2.1 ∧ Cp (fun k => w1.heap.size ≤ k ∧ k ≠ g5) w8 w') := hadd
  have HRef2 : Hid (∀ W, EnR W (.slice a7 n7 k7) R1.1.l → Rd W (.slice (some ⟨g5, 0, none⟩) T 1024) bd → Calls Try.prog 18 #[.agg (bfD R1.1 (.slice a7 n7 k7)).toArray, .string ⟨[112].toArray⟩, .int .i64 1, .int .i64 1, .int .i64 2, .slice (some ⟨g5, 0, none⟩) T 1024, .int .u64 (second : Int)] W fun r w' => ∃ v', r = .returned (.tuple #[.agg (bfD R2.1 v').toArray, .string ⟨R2.2.1.toArray⟩, .int .i64 R2.2.2]) ∧ EnR w' v' R2.1.l ∧ Below W.heap.size W w') := by
    show ∀ W, _
    intro W hE hR
    rw [hR2]
    exact add19_any R1.1 (by have := HEn1.out.2; omega) HEn1.out.1 [112] (by decide) 1 1 2 bd second HS.out _ _ _ rfl W hE hR
  have hen := EnS.adF HEn1.out.1 (p := [112]) (by decide) 1 1 2 bd (now := second) HS.out
  rw [← hR2] at hen
  have HEn2 : Hid (EnS R2.1.l ∧ R2.1.l.length ≤ 1000) := ⟨hen.1, by have := HEn1.out.2; have := hen.2; omega⟩
  clear hcw hR2 hadd hen hbd r8 hw8 HBu6 HE7 HR7 HOw6 HR6 HB6 HG6 HB67
  go_wp2_with fail
  refine Calls.mono HAdd.out ?_
  rintro e w9 ⟨v9, rfl, hR9, hBu9, c9⟩
  obtain ⟨a9, k9, rfl, -⟩ := id hR9
  obtain ⟨n9, hn9⟩ : ∃ n, n = R2.2.1.length := ⟨_, rfl⟩
  rw [← hn9] at hR9 ⊢
  have HR9 : Hid (Rd w9 (.slice a9 n9 k9) R2.2.1) := hR9
  have HBu9 : Hid (BuP (fun k => w1.heap.size ≤ k ∧ k ≠ g5) w9 gb R2.1) := hBu9
  have HE9 : Hid (EnR w9 (.slice a7 n7 k7) R1.1.l) := HE8.out.kp c9.kp
  have HOw9 : Hid (Rd w9 (.slice (some ⟨g5, 0, none⟩) T 1024) bd) := HOwT.out _ (HOw8.out.chgF c9.chg (HOut.out _ _ _))
  have HB9 : Hid (Below w1.heap.size w1 w9) := Chg.below HB8.out c9.chg HB8.out.size fun k _ hk => hk.1
  have r11 : BlkAt g11 40 (bfD R1.1 (.slice a7 n7 k7)) w9 := c9.oth _ _ _ HR8.out (by decide) (by decide) (by decide)
  clear hR9 hBu9 hn9 c9 HAdd HBu8 HE8 HOw8 HR8 HB8 HG8 HOwT
  go_upto_region 10 with fail
  go_cut [15, 16, 17] (fun v x y wx => ∃ (g : Nat) (u : Value), v = .pointer (some ⟨g, 0, none⟩) ∧ x = .string ⟨R2.2.1.toArray⟩ ∧ y = .int .i64 R2.2.2 ∧ Hid (BlkAt g 40 (bfD R2.1 u) wx) ∧ Hid (EnR wx u R2.1.l) ∧ Hid (Below w9.heap.size w9 wx))
  case first =>
    have hB : Below w9.heap.size w9 w9.drew := (Below.refl _ _).drew
    refine wpB_begin (Below.refl w9.heap.size w9) (by kernel_rfl) ?_
    refine bU_ hB 0 rfl ⟨_, by intro W hW; refine Eq.trans (exec_load_part 40 _ (by rfl) (by rfl) [] (bfD R1.1 (.slice a7 n7 k7)) [] r11 hW (by simp) rfl Try.underlying40 rfl (infoBf _ _)) ?_; with_reducible rfl, ?_⟩
    try simp only [Act.put, pA_, pB_, pC_]
    refine bU_ hB 1 rfl ⟨_, by intro W hW; go_simp <;> with_reducible rfl, ?_⟩
    try simp only [Act.put, pA_, pB_, pC_]
    refine bU_ hB 2 rfl ⟨_, by intro W hW; go_simp <;> with_reducible rfl, ?_⟩
    try simp only [Act.put, pA_, pB_, pC_]
    refine bU_ hB 3 rfl ⟨_, by intro W hW; go_simp <;> with_reducible rfl, ?_⟩
    try simp only [Act.put, pA_, pB_, pC_]
    refine bU_ hB 4 rfl ⟨_, by intro W hW; go_simp <;> with_reducible rfl, ?_⟩
    try simp only [Act.put, pA_, pB_, pC_]
    refine bU_ hB 5 rfl ⟨_, by intro W hW; go_simp <;> with_reducible rfl, ?_⟩
    try simp only [Act.put, pA_, pB_, pC_]
    refine bU_ hB 6 rfl ⟨_, by intro W hW; go_simp <;> with_reducible rfl, ?_⟩
    try simp only [Act.put, pA_, pB_, pC_]
    refine bF_ 7 12 (fun K hK => ?_) (fun K hK => ?_)
    · go_simp
      refine (HRef2.out _ (HE9.out.kept hB) (HOw9.out.kept hB)).mono ?_
      rintro e wq ⟨vq, rfl, hEq, bq⟩
      obtain ⟨aq, kq, rfl, -, -⟩ := hEq.len
      replace hB := stepB hB bq
      try replace hG := BlkAt.kept hG bq
      refine hK.out _ _ hB ?_
      clear hK K
      try simp only [Act.put, pA_, pB_, pC_]
      refine bU_ hB 8 rfl ⟨_, by intro W hW; go_simp <;> with_reducible rfl, ?_⟩
      try simp only [Act.put, pA_, pB_, pC_]
      refine bU_ hB 9 rfl ⟨_, by intro W hW; go_simp <;> with_reducible rfl, ?_⟩
      try simp only [Act.put, pA_, pB_, pC_]
      refine bU_ hB 10 rfl ⟨_, by intro W hW; go_simp <;> with_reducible rfl, ?_⟩
      try simp only [Act.put, pA_, pB_, pC_]
      refine bU_ hB 11 rfl ⟨_, by intro W hW; go_simp <;> with_reducible rfl, ?_⟩
      try simp only [Act.put, pA_, pB_, pC_]
      refine bD_ 12 fun K hK => ?_
      refine wp_alloc_b19 hB 40 rfl zbD (alloc_bf _) ?_
      intro g wN hG hge hBA hBc hge2
      replace hB := hBA
      try replace hEq := EnR.kept hEq hBc
      refine hK.out _ _ hB ?_
      clear hK K
      try simp only [Act.put, pA_, pB_, pC_]
      refine bD_ 13 fun K hK => ?_
      refine wp_store_part 40 _ _ rfl rfl (bfD R2.1 (.slice aq R2.1.l.length kq)) rfl [] zbD [] (bfD R2.1 (.slice aq R2.1.l.length kq)) hG rfl rfl rfl rfl (infoBf R2.1 (.slice aq R2.1.l.length kq)) (bfD_one _ _ _ _) ?_
      intro wS hGS hwS
      replace hB := hwS.below _ _ hge hB
      replace hEq := EnR.past hEq hG zbD_no (Chg.of_wrote hwS)
      refine hK.out _ _ hB ?_
      clear hK K
      try simp only [Act.put, pA_, pB_, pC_]
      refine bU_ hB 14 rfl ⟨_, by intro W hW; go_simp <;> with_reducible rfl, ?_⟩
      try simp only [Act.put, pA_, pB_, pC_]
      refine bU_ hB 15 rfl ⟨_, by intro W hW; go_simp <;> with_reducible rfl, ?_⟩
      try simp only [Act.put, pA_, pB_, pC_]
      refine wpB_done (by kernel_rfl) ?_
      go_wp2_with fail
      go_meet
      exact ⟨g, _, rfl, rfl, rfl, hGS, hEq, hB⟩
    · refine wp_alloc_b19 hB 40 rfl zbD (alloc_bf _) ?_
      intro g wN hG hge hBA hBc hge2
      replace hB := hBA
      try replace hEq := EnR.kept hEq hBc
      refine hK.out _ _ hB ?_
      clear hK K
      try simp only [Act.put, pA_, pB_, pC_]
      refine bD_ 7 fun K hK => ?_
      go_simp
      refine (HRef2.out _ (HE9.out.kept hB) (HOw9.out.kept hB)).mono ?_
      rintro e wq ⟨vq, rfl, hEq, bq⟩
      obtain ⟨aq, kq, rfl, -, -⟩ := hEq.len
      replace hB := stepB hB bq
      try replace hG := BlkAt.kept hG bq
      refine hK.out _ _ hB ?_
      clear hK K
      try simp only [Act.put, pA_, pB_, pC_]
      refine bU_ hB 8 rfl ⟨_, by intro W hW; go_simp <;> with_reducible rfl, ?_⟩
      try simp only [Act.put, pA_, pB_, pC_]
      refine bU_ hB 9 rfl ⟨_, by intro W hW; go_simp <;> with_reducible rfl, ?_⟩
      try simp only [Act.put, pA_, pB_, pC_]
      refine bU_ hB 10 rfl ⟨_, by intro W hW; go_simp <;> with_reducible rfl, ?_⟩
      try simp only [Act.put, pA_, pB_, pC_]
      refine bU_ hB 11 rfl ⟨_, by intro W hW; go_simp <;> with_reducible rfl, ?_⟩
      try simp only [Act.put, pA_, pB_, pC_]
      refine bD_ 13 fun K hK => ?_
      refine wp_store_part 40 _ _ rfl rfl (bfD R2.1 (.slice aq R2.1.l.length kq)) rfl [] zbD [] (bfD R2.1 (.slice aq R2.1.l.length kq)) hG rfl rfl rfl rfl (infoBf R2.1 (.slice aq R2.1.l.length kq)) (bfD_one _ _ _ _) ?_
      intro wS hGS hwS
      replace hB := hwS.below _ _ hge hB
      replace hEq := EnR.past hEq hG zbD_no (Chg.of_wrote hwS)
      refine hK.out _ _ hB ?_
      clear hK K
      try simp only [Act.put, pA_, pB_, pC_]
      refine bU_ hB 14 rfl ⟨_, by intro W hW; go_simp <;> with_reducible rfl, ?_⟩
      try simp only [Act.put, pA_, pB_, pC_]
      refine bU_ hB 15 rfl ⟨_, by intro W hW; go_simp <;> with_reducible rfl, ?_⟩
      try simp only [Act.put, pA_, pB_, pC_]
      refine wpB_done (by kernel_rfl) ?_
      go_wp2_with fail
      go_meet
      exact ⟨g, _, rfl, rfl, rfl, hGS, hEq, hB⟩
  case rest =>
  obtain ⟨g15, u, rfl, rfl, rfl, HGV, HEV, HBV⟩ := hcut
  obtain ⟨au, ku, rfl, -, -⟩ := HEV.out.len
  obtain ⟨nu, hnu⟩ : ∃ n, n = R2.1.l.length := ⟨_, rfl⟩
  rw [← hnu] at HGV HEV
  have HRv : Hid (Rd wc (.slice a9 n9 k9) R2.2.1) := HR9.out.kept HBV.out
  have HBuV : Hid (BuP (fun k => w1.heap.size ≤ k ∧ k ≠ g5) wc gb R2.1) := HBu9.out.kept HBV.out
  have HTo : Hid (∀ W, Below wc.heap.size wc W → Calls Try.prog 19 #[pV gb] W fun e w' => e = .returned (.int .i64 (ttB R2.1.l : Int)) ∧ Below W.heap.size W w') := fun W hW => btotal_any _ gb _ W (HBuV.out.kept hW) HEn2.out.1 HEn2.out.2
  have HTr : Hid (∀ W, Below wc.heap.size wc W → Calls Try.prog 20 #[.agg (bfD R2.1 (.slice au nu ku)).toArray] W fun e w' => e = .returned (.int .i64 (ttB R2.1.l : Int)) ∧ Below W.heap.size W w') := fun W hW => total19_any R2.1 HEn2.out.2 HEn2.out.1 _ _ rfl W (HEV.out.kept hW)
  have HCo : Hid (∀ W, Below wc.heap.size wc W → Calls Try.prog 21 #[pV gb] W fun e w' => e = .returned (.int .i64 (nu : Int)) ∧ w' = W) := by
    show ∀ W, _
    intro W hW
    rw [hnu]
    exact bcount_any _ gb _ W (HBuV.out.kept hW)
  generalize ((ttB R2.1.l : Nat) : Int) = tt at HTo HTr
  have HBf : Hid (Below w.heap.size w wc) := HB1.out.trans ((HB9.out.trans (HBV.out.mono HB9.out.size)).mono HB1.out.size)
  have c15 : ∀ W, Below wc.heap.size wc W → W.cell? ⟨g15, 3, none⟩ = some (.slice au nu ku) := fun W hW => BlkAt.cell (BlkAt.kept HGV.out hW) 3
  have HC15 : Hid (∀ W, Below wc.heap.size wc W → W.cell? ⟨g15, 3, none⟩ = some (.slice au nu ku)) := c15
  clear hnu c15 r11 HB9 HOw9 HE9 HRef2
  go_wp2_with fail
  refine wpG_begin (by kernel_rfl) ?_
  refine gU_ 0 rfl ⟨_, by intro W hW; go_simp <;> with_reducible rfl, ?_⟩
  try simp only [Act.put, pA_, pB_, pC_]
  refine gU_ 1 rfl ⟨_, by intro W hW; go_simp <;> with_reducible rfl, ?_⟩
  try simp only [Act.put, pA_, pB_, pC_]
  refine gU_ 2 rfl ⟨_, by intro W hW; go_simp <;> with_reducible rfl, ?_⟩
  try simp only [Act.put, pA_, pB_, pC_]
  refine gU_ 3 rfl ⟨_, by intro W hW; go_simp <;> with_reducible rfl, ?_⟩
  try simp only [Act.put, pA_, pB_, pC_]
  refine gU_ 4 rfl ⟨_, by intro W hW; go_simp <;> with_reducible rfl, ?_⟩
  try simp only [Act.put, pA_, pB_, pC_]
  refine gU_ 5 rfl ⟨_, by intro W hW; have hcv := conv19 (HRv.out.keptD hW); go_simp <;> with_reducible rfl, ?_⟩
  try simp only [Act.put, pA_, pB_, pC_]
  refine gU_ 6 rfl ⟨_, by intro W hW; go_simp <;> with_reducible rfl, ?_⟩
  try simp only [Act.put, pA_, pB_, pC_]
  refine gU_ 7 rfl ⟨_, by intro W hW; go_simp <;> with_reducible rfl, ?_⟩
  try simp only [Act.put, pA_, pB_, pC_]
  refine gU_ 8 rfl ⟨_, by intro W hW; go_simp <;> with_reducible rfl, ?_⟩
  try simp only [Act.put, pA_, pB_, pC_]
  refine gU_ 9 rfl ⟨_, by intro W hW; go_simp <;> with_reducible rfl, ?_⟩
  try simp only [Act.put, pA_, pB_, pC_]
  refine gU_ 10 rfl ⟨_, by intro W hW; go_simp <;> with_reducible rfl, ?_⟩
  try simp only [Act.put, pA_, pB_, pC_]
  refine gU_ 12 rfl ⟨_, by intro W hW; refine Eq.trans (exec_load_part 40 _ (by rfl) (by rfl) [] (bfD R2.1 (.slice au nu ku)) [] HGV.out (stepB (Below.refl _ _).drew hW) (by simp) rfl Try.underlying40 rfl (infoBf _ _)) ?_; with_reducible rfl, ?_⟩
  try simp only [Act.put, pA_, pB_, pC_]
  refine gD_ 11 fun K hK => ?_
  go_simp
  refine (HTo.out _ (Below.refl _ _).drew).mono ?_
  rintro e w10 ⟨rfl, b10⟩
  refine hK.out _ _ b10 ?_
  clear hK K
  try simp only [Act.put, pA_, pB_, pC_]
  refine gD_ 13 fun K hK => ?_
  go_simp
  refine (HTr.out _ (stepB (Below.refl _ _).drew b10)).mono ?_
  rintro e w11 ⟨rfl, b11⟩
  refine hK.out _ _ b11 ?_
  clear hK K
  try simp only [Act.put, pA_, pB_, pC_]
  refine gU_ 14 rfl ⟨_, by intro W hW; go_simp <;> with_reducible rfl, ?_⟩
  try simp only [Act.put, pA_, pB_, pC_]
  refine gU_ 15 rfl ⟨_, by intro W hW; go_simp <;> with_reducible rfl, ?_⟩
  try simp only [Act.put, pA_, pB_, pC_]
  refine gU_ 16 rfl ⟨_, by intro W hW; go_simp <;> with_reducible rfl, ?_⟩
  try simp only [Act.put, pA_, pB_, pC_]
  refine gU_ 17 rfl ⟨_, by intro W hW; go_simp <;> with_reducible rfl, ?_⟩
  try simp only [Act.put, pA_, pB_, pC_]
  refine gU_ 19 rfl ⟨_, by intro W hW; go_simp <;> with_reducible rfl, ?_⟩
  try simp only [Act.put, pA_, pB_, pC_]
  refine gU_ 20 rfl ⟨_, by intro W hW; have hc := HC15.out W (stepB (stepB (stepB (Below.refl _ _).drew b10) b11) hW); go_simp <;> with_reducible rfl, ?_⟩
  try simp only [Act.put, pA_, pB_, pC_]
  refine gU_ 21 rfl ⟨_, by intro W hW; go_simp <;> with_reducible rfl, ?_⟩
  try simp only [Act.put, pA_, pB_, pC_]
  refine gD_ 18 fun K hK => ?_
  go_simp
  refine (HCo.out _ (stepB (stepB (Below.refl _ _).drew b10) b11)).mono ?_
  rintro e w12 ⟨rfl, rfl⟩
  refine hK.out _ _ (Below.refl _ _) ?_
  clear hK K
  try simp only [Act.put, pA_, pB_, pC_]
  refine gU_ 22 rfl ⟨_, by intro W hW; go_simp <;> with_reducible rfl, ?_⟩
  try simp only [Act.put, pA_, pB_, pC_]
  refine gU_ 23 rfl ⟨_, by intro W hW; go_simp <;> with_reducible rfl, ?_⟩
  try simp only [Act.put, pA_, pB_, pC_]
  refine gU_ 24 rfl ⟨_, by intro W hW; go_simp <;> with_reducible rfl, ?_⟩
  try simp only [Act.put, pA_, pB_, pC_]
  refine wpG_done (by kernel_rfl) ?_
  have HBz : Hid (Below w.heap.size w w12) := stepB HBf.out (stepB (stepB (Below.refl _ _).drew b10) b11)
  go_wp2
  go_ret
  exact ⟨by simp, HBz.out⟩
end Go.Proofs.Ytkljklfejaojaaa
