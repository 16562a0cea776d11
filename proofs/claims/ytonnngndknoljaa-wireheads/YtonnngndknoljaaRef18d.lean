/- Bytes as a packet: contracts of the reference of layer 18, fourth part. -/
import Derived.Test.YtonnngndknoljaaRef18c
namespace Go.Proofs.Ytonnngndknoljaa
open Go.ChangeShapes Go.WideShapes Go.ChangeAt Go.RowKit
set_option linter.unusedSimpArgs false
set_option linter.unusedVariables false

theorem st_int18 {g j : Nat} {bt : TypeId} {cs : List Value} {old : Value} {w : World} {ops : Array Oper} {rest : List Oper} {op : Oper} {a : Act} {Q : Exit → Act → World → Prop} (hgd : op.guard = none) (x y : Operand) (ho : op.op = .store 3 x y) (hx : a.eval x = .pointer (some ⟨g, j, none⟩)) (X : Int) (hy : a.eval y = .int .i64 X)
    (hb : BlkAt g bt cs w) (hj : cs[j]? = some old) (h : ∀ w', BlkAt g bt (cs.set j (.int .i64 X)) w' → Wrote g w w' → wpList Try.prog ops Q rest (a.put op.dst undef) w') : wpList Try.prog ops Q (op :: rest) a w := by
  refine wpList_plain hgd fun K hK => ?_
  have hc : w.cell? ⟨g, j, none⟩ = some old := by rw [hb.cell]; exact hj
  have hf := hb.free j
  have h2 := hK _ _ (h _ (hb.set j _) (Wrote.set g j w _))
  unfold Oper.wp execOp
  simp only [ho, hx, hy]
  go_simp
  exact h2
theorem st_u32 {g j : Nat} {bt : TypeId} {cs : List Value} {old : Value} {w : World} {ops : Array Oper} {rest : List Oper} {op : Oper} {a : Act} {Q : Exit → Act → World → Prop} (hgd : op.guard = none) (x y : Operand) (ho : op.op = .store 22 x y) (hx : a.eval x = .pointer (some ⟨g, j, none⟩)) (X : Int) (hy : a.eval y = .int .u32 X)
    (hb : BlkAt g bt cs w) (hj : cs[j]? = some old) (h : ∀ w', BlkAt g bt (cs.set j (.int .u32 X)) w' → Wrote g w w' → wpList Try.prog ops Q rest (a.put op.dst undef) w') : wpList Try.prog ops Q (op :: rest) a w := by
  refine wpList_plain hgd fun K hK => ?_
  have hc : w.cell? ⟨g, j, none⟩ = some old := by rw [hb.cell]; exact hj
  have hf := hb.free j
  have h2 := hK _ _ (h _ (hb.set j _) (Wrote.set g j w _))
  unfold Oper.wp execOp
  simp only [ho, hx, hy]
  go_simp
  exact h2
theorem st_u64 {g j : Nat} {bt : TypeId} {cs : List Value} {old : Value} {w : World} {ops : Array Oper} {rest : List Oper} {op : Oper} {a : Act} {Q : Exit → Act → World → Prop} (hgd : op.guard = none) (x y : Operand) (ho : op.op = .store 24 x y) (hx : a.eval x = .pointer (some ⟨g, j, none⟩)) (X : Int) (hy : a.eval y = .int .u64 X)
    (hb : BlkAt g bt cs w) (hj : cs[j]? = some old) (h : ∀ w', BlkAt g bt (cs.set j (.int .u64 X)) w' → Wrote g w w' → wpList Try.prog ops Q rest (a.put op.dst undef) w') : wpList Try.prog ops Q (op :: rest) a w := by
  refine wpList_plain hgd fun K hK => ?_
  have hc : w.cell? ⟨g, j, none⟩ = some old := by rw [hb.cell]; exact hj
  have hf := hb.free j
  have h2 := hK _ _ (h _ (hb.set j _) (Wrote.set g j w _))
  unfold Oper.wp execOp
  simp only [ho, hx, hy]
  go_simp
  exact h2
theorem st_sl18 {g j : Nat} {bt : TypeId} {cs : List Value} {old : Value} {w : World} {ops : Array Oper} {rest : List Oper} {op : Oper} {a : Act} {Q : Exit → Act → World → Prop} (hgd : op.guard = none) (x y : Operand) (ho : op.op = .store 23 x y) (hx : a.eval x = .pointer (some ⟨g, j, none⟩)) (A : Option Addr) (n c : Nat) (hy : a.eval y = .slice A n c)
    (hb : BlkAt g bt cs w) (hj : cs[j]? = some old) (h : ∀ w', BlkAt g bt (cs.set j (.slice A n c)) w' → Wrote g w w' → wpList Try.prog ops Q rest (a.put op.dst undef) w') : wpList Try.prog ops Q (op :: rest) a w := by
  refine wpList_plain hgd fun K hK => ?_
  have hc : w.cell? ⟨g, j, none⟩ = some old := by rw [hb.cell]; exact hj
  have hf := hb.free j
  have h2 := hK _ _ (h _ (hb.set j _) (Wrote.set g j w _))
  unfold Oper.wp execOp
  simp only [ho, hx, hy]
  go_simp
  exact h2
theorem bodyPost_pk {P : Program} {fn : Func} {p q : Tmp} {ty bt : TypeId} {g : Nat} {cs : List Value} {d : TypeDesc} {v : Value} {R : Ending → World → Prop} {a : Act} {w : World} (h : fn.results = #[.cell p ty, .tmp q]) (hd : a.defers = [])
    (hp : a.tmps.getD p undef = .pointer (some ⟨g, 0, none⟩)) (hq : a.tmps.getD q undef = v) (hb : BlkAt g bt cs w) (hu : P.underlying ty = some d) (hrow : d.isRow = true) (hi : (P.info? ty).map (·.size) = some cs.length)
    (hR : R (.returned (.tuple #[.agg cs.toArray, v])) w) : bodyPost P fn R .ret a w := by
  refine bodyPost_ret ?_ hd hR
  have hp' : a.tmps[p]?.getD undef = .pointer (some ⟨g, 0, none⟩) := by simpa using hp
  have hq' : a.tmps[q]?.getD undef = v := by simpa using hq
  have hb' : BlkAt g bt (([] : List Value) ++ cs ++ []) w := by simpa using hb
  have hl := run_loadVar_mid (P := P) w g 0 ty cs d hb'.range hu hrow hi
  simp [results, h, hp', hq', asAddr, hl]
/-- The cells of no packet. -/
def zpk : List Value := pkC noPk (.slice none 0 0) (.slice none 0 0)
theorem le4_lt (b : List UInt8) (n : Nat) : leN ((b.drop n).take 4) < 4294967296 := by
  have h := leN_lt ((b.drop n).take 4)
  have h2 : ((b.drop n).take 4).length ≤ 4 := by simp; omega
  have h3 := Nat.pow_le_pow_right (show 0 < 256 by decide) h2
  have h4 : 256 ^ 4 = 4294967296 := by decide
  omega
theorem take48 (l : List UInt8) : (l.take 4).take 8 = l.take 4 := List.take_of_length_le (by simp; omega)
theorem alloc_pk (w : World) : (Instr.alloc 28 true (.tuple #[])).run Try.prog w = .ok (.pointer (some ⟨w.heap.size, 0, none⟩)) (w.alloc (.cells zpk.toArray 28)) := by kernel_rfl
theorem build_pk (w : World) : (Instr.build 28 #[]).run Try.prog w = .ok (.agg zpk.toArray) w := by kernel_rfl
theorem one_zpk : zpk.toArray.all (·.oneCell') = true := by kernel_rfl
theorem one_pk (p : Pkt) (a1 a2 : Option Addr) (l1 c1 l2 c2 : Nat) : (pkC p (.slice a1 l1 c1) (.slice a2 l2 c2)).toArray.all (·.oneCell') = true := by kernel_rfl

set_option maxRecDepth 100000 in
set_option maxHeartbeats 16000000 in
theorem get18_any (v : Value) (b : List UInt8) (w : World) (hr : Rd w v b) :
    Calls Try.prog 15 #[v] w fun e w' => ∃ vm vb, e = .returned (.tuple #[.agg (pkC (gtP b).1 vm vb).toArray, .int .i64 (gtP b).2]) ∧ PkR w' (gtP b).1 vm vb ∧ Below w.heap.size w w' := by
  obtain ⟨ab, cb, rfl, hb2, hb3, hb4, hb5⟩ := id hr
  obtain ⟨L, hL⟩ : ∃ n : Nat, n = b.length := ⟨_, rfl⟩
  have HR : Hid (Rd w (.slice ab b.length cb) b) := hr
  rw [← hL] at HR hb2 ⊢
  unfold maxLen at hb3
  have HL : Hid (L = b.length) := hL
  have HE : Hid (∀ E, gtP b = (noPk, E) → ∀ W, Below w.heap.size w W → ∃ vm vb, Ending.returned (.tuple #[.agg zpk.toArray, .int .i64 E]) = .returned (.tuple #[.agg (pkC (gtP b).1 vm vb).toArray, .int .i64 (gtP b).2]) ∧ PkR W (gtP b).1 vm vb ∧ Below w.heap.size w W) := fun E h W hW => by
    rw [h]
    exact ⟨.slice none 0 0, .slice none 0 0, rfl, ⟨Rd.nil _, Rd.nil _⟩, hW⟩
  obtain ⟨G, hG⟩ : ∃ G, G = gtP b := ⟨_, rfl⟩
  rw [← hG] at HE ⊢
  have HG : Hid (G = gtP b) := hG
  clear hr hL hG
  go_enter Try.func15, Try.ntmps15
  go_wp2_with (refine wpList_alloc_blk rfl 28 rfl zpk (alloc_pk _) ?_)
  intro w1 r1 b1 s1
  obtain ⟨g, hg⟩ : ∃ n : Nat, n = w.heap.size := ⟨_, rfl⟩
  rw [← hg] at r1 ⊢
  have R1 : Hid (BlkAt g 28 zpk w1) := r1
  have HGe : Hid (w.heap.size ≤ g) := by show _ ≤ _; omega
  have HB1 : Hid (Below w.heap.size w w1) := b1
  clear r1 b1 s1 hg
  by_cases h1200 : 1200 < L
  · have d : decide ((1200 : Int) < (L : Int)) = true := decide_eq_true (by omega)
    have HV : Hid (G = (noPk, 14)) := (by rw [HG.out]; unfold gtP; rw [if_pos (by rw [← HL.out]; exact h1200)] : G = (noPk, 14))
    go_wp2_with (first | refine wpList_buildB rfl 28 _ rfl #[] (by go_simp) _ (build_pk _) ?_ | (refine wpList_store_part rfl 28 _ _ rfl rfl zpk rfl [] zpk [] zpk R1.out (by simp) (by simp) rfl rfl info_pk one_zpk ?_; intro wz wzr wzw))
    refine bodyPost_pk rfl rfl rfl rfl wzr Try.underlying28 rfl info_pk ?_
    exact HE.out _ HV.out _ (wzw.below _ _ HGe.out HB1.out)
  have d1 : decide ((1200 : Int) < (L : Int)) = false := decide_eq_false (by omega)
  by_cases h0 : L = 0
  · have d : ((L : Int) == 0) = true := by simp [h0]
    have HV : Hid (G = (noPk, 13)) := (by rw [HG.out]; unfold gtP; rw [if_neg (by rw [← HL.out]; exact h1200), if_pos (by rw [← HL.out]; exact h0)] : G = (noPk, 13))
    go_wp2_with (first | refine wpList_buildB rfl 28 _ rfl #[] (by go_simp) _ (build_pk _) ?_ | (refine wpList_store_part rfl 28 _ _ rfl rfl zpk rfl [] zpk [] zpk R1.out (by simp) (by simp) rfl rfl info_pk one_zpk ?_; intro wz wzr wzw))
    refine bodyPost_pk rfl rfl rfl rfl wzr Try.underlying28 rfl info_pk ?_
    exact HE.out _ HV.out _ (wzw.below _ _ HGe.out HB1.out)
  have d2 : ((L : Int) == 0) = false := by rw [beq_eq_false_iff_ne]; omega
  have HG2 : Hid (G = match gtC b with | none => (noPk, 40) | some p => if mayB p = true then (p, 0) else (noPk, 40)) := by
    show _ = _
    rw [HG.out]
    unfold gtP
    rw [if_neg (by rw [← HL.out]; exact h1200), if_neg (by rw [← HL.out]; exact h0)]
    rfl
  rcases hb5 with hb5 | ⟨bb, oo, rfl, hcell⟩
  · have := HL.out
    rw [hb5] at this
    simp at this
    omega
  go_wp2_with (refine wpList_alloc_blk rfl 28 rfl zpk (alloc_pk _) ?_)
  intro w2 r2 b2 s2
  obtain ⟨g2, hg2⟩ : ∃ n : Nat, n = w1.heap.size := ⟨_, rfl⟩
  rw [← hg2] at r2 ⊢
  have R1' : Hid (BlkAt g 28 zpk w2) := R1.out.kept b2
  have HNe : Hid (g < g2) := by show _ < _; rw [hg2]; exact R1.out.lt
  have HB2 : Hid (Below w.heap.size w w2) := stepB HB1.out b2
  have HGe2 : Hid (w.heap.size ≤ g2) := by show _ ≤ _; have := HGe.out; have := HNe.out; omega
  have R2 : Hid (BlkAt g2 28 zpk w2) := r2
  obtain ⟨k, hk⟩ : ∃ n : Nat, n = (b.getD 0 0).toNat := ⟨_, rfl⟩
  have hk8 : k < 256 := by rw [hk]; exact UInt8.toNat_lt _
  have HCe : Hid (∀ i x, i < L → x = (b.getD i 0).toNat → ∀ W, Below w.heap.size w W → W.cell? ⟨bb, oo + i, none⟩ = some (.int .u8 (x : Int))) := fun i x hi hx W hW => by
    rw [hx]
    exact cell18 (hcell i (by rw [← HL.out]; exact hi)) hW
  have q0 : w2.cell? ⟨bb, oo, none⟩ = some (.int .u8 (k : Int)) := HCe.out 0 k (by omega) hk w2 HB2.out
  have HK : Hid (k = (b.getD 0 0).toNat) := hk
  have hcL : L ≤ cb := hb2
  have u0 : (0 : Int) < (L : Int) := by omega
  clear R1 HB1 b2 r2 s2 hg2 hk hcell
  go_wp2_with (refine st_int18 rfl _ _ rfl rfl (k : Int) rfl R2.out rfl ?_)
  intro w3 r3 hw3
  have HB3 : Hid (Below w.heap.size w w3) := hw3.below _ _ HGe2.out HB2.out
  have R3 : Hid (BlkAt g2 28 (pkC ⟨(k : Int), 0, 0, 0, 0, 0, [], 0, []⟩ (.slice none 0 0) (.slice none 0 0)) w3) := r3
  have RT : Hid (BlkAt g 28 zpk w3) := R1'.out.wrote hw3 (by have := HNe.out; omega)
  have c0 : w3.cell? ⟨g2, 0, none⟩ = some (.int .i64 (k : Int)) := r3.cell 0
  clear r3 hw3 HB2 R2 R1' q0
  by_cases k1 : k = 1
  · by_cases h28 : 28 < L
    · subst k1
      have R3 := R3.out
      have w3R : Hid (BlkAt g2 28 (pkC ⟨1, 0, 0, 0, 0, 0, [], 0, []⟩ (.slice none 0 0) (.slice none 0 0)) w3) := R3
      have w3B : Hid (Below w.heap.size w w3) := HB3.out
      have w3T : Hid (BlkAt g 28 zpk w3) := RT.out
      have f0 : decide ((28 : Int) < (L : Int)) = true := decide_eq_true (by omega)
      have HS1 : Hid (Rd w (.slice (some ⟨bb, oo + 1, none⟩) 4 (cb - 1)) ((b.drop 1).take 4)) := HR.out.sub 1 5 (by omega) (by omega)
      have HS2 : Hid (Rd w (.slice (some ⟨bb, oo + 5, none⟩) 4 (cb - 5)) ((b.drop 5).take 4)) := HR.out.sub 5 9 (by omega) (by omega)
      have HM1 : Hid (Rd w (.slice (some ⟨bb, oo + 12, none⟩) 16 (cb - 12)) ((b.drop 12).take 16)) := HR.out.sub 12 28 (by omega) (by omega)
      have HM2 : Hid (Rd w (.slice (some ⟨bb, oo + 28, none⟩) (L - 28) (cb - 28)) (b.drop 28)) := by
        have h := HR.out.sub 28 L (by omega) (Nat.le_refl _)
        rw [List.take_of_length_le (by rw [List.length_drop]; have := HL.out; omega)] at h
        exact h
      obtain ⟨F, hF⟩ : ∃ n : Nat, n = leN ((b.drop 1).take 4) := ⟨_, rfl⟩
      obtain ⟨T, hT⟩ : ∃ n : Nat, n = leN ((b.drop 5).take 4) := ⟨_, rfl⟩
      obtain ⟨x9, hx9⟩ : ∃ n : Nat, n = (b.getD 9 0).toNat := ⟨_, rfl⟩
      obtain ⟨xa, hxa⟩ : ∃ n : Nat, n = (b.getD 10 0).toNat := ⟨_, rfl⟩
      obtain ⟨xb, hxb⟩ : ∃ n : Nat, n = (b.getD 11 0).toNat := ⟨_, rfl⟩
      have hF2 := le4_lt b 1
      have hT2 := le4_lt b 5
      rw [← hF] at hF2
      rw [← hT] at hT2
      have e1 : leN (((b.drop 1).take 4).take 8) = F := by rw [hF, take48]
      have e2 : leN (((b.drop 5).take 4).take 8) = T := by rw [hT, take48]
      have y1 : IntKind.u32.wrap (F : Int) = (F : Int) := by rw [IntKind.wrap_u32]; omega
      have y2 : IntKind.u32.wrap (T : Int) = (T : Int) := by rw [IntKind.wrap_u32]; omega
      have z9 : x9 < 256 := by rw [hx9]; exact UInt8.toNat_lt _
      have za : xa < 256 := by rw [hxa]; exact UInt8.toNat_lt _
      have zb : xb < 256 := by rw [hxb]; exact UInt8.toNat_lt _
      have HC9 : Hid _ := fun W hW => HCe.out 9 x9 (by omega) hx9 W hW
      have HCa : Hid _ := fun W hW => HCe.out 10 xa (by omega) hxa W hW
      have HCb : Hid _ := fun W hW => HCe.out 11 xb (by omega) hxb W hW
      have HGc0 : Hid (gtC b = some ⟨1, F, T, (x9 : Int), (xa : Int), (xb : Int), (b.drop 12).take 16, 0, b.drop 28⟩) := (by unfold gtC; simp only [← HK.out, ← HL.out]; rw [if_pos ⟨trivial, h28⟩, hF, hT, hx9, hxa, hxb] : gtC b = some ⟨1, F, T, (x9 : Int), (xa : Int), (xb : Int), (b.drop 12).take 16, 0, b.drop 28⟩)
      have n1 : (28 : Int) ≤ (L : Int) := by omega
      have n2 : (L : Int) ≤ (cb : Int) := by omega
      have n3 : ¬ cb = 28 := by omega
      have n4 : ¬ cb = 12 := by omega
      have n5 : ¬ cb = 1 := by omega
      have n6 : ¬ cb = 5 := by omega
      have n7 : (28 : Int) ≤ (cb : Int) := by omega
      have n8 : (9 : Int) ≤ (cb : Int) := by omega
      have n9 : (5 : Int) ≤ (cb : Int) := by omega
      have m1 : (9 : Int) < (L : Int) := by omega
      have m2 : (10 : Int) < (L : Int) := by omega
      have m3 : (11 : Int) < (L : Int) := by omega
      clear R3 hF hT hx9 hxa hxb HB3 RT
      go_wp2_with fail
      refine (refload_any _ _ _ (Rd.kept HS1.out w3B.out)).mono ?_
      rintro e wa ⟨rfl, rfl⟩
      rw [e1]
      go_wp2_with (refine st_u32 rfl _ _ rfl rfl (F : Int) rfl w3R.out rfl ?_)
      intro wb wbr wbw
      have wbB : Hid (Below w.heap.size w wb) := wbw.below _ _ HGe2.out w3B.out
      have wbR : Hid (BlkAt g2 28 (pkC ⟨1, F, 0, 0, 0, 0, [], 0, []⟩ (.slice none 0 0) (.slice none 0 0)) wb) := wbr
      have wbT : Hid (BlkAt g 28 zpk wb) := w3T.out.wrote wbw (by have := HNe.out; omega)
      clear wbr wbw
      go_wp2_with fail
      refine (refload_any _ _ _ (Rd.kept HS2.out wbB.out)).mono ?_
      rintro e wc ⟨rfl, rfl⟩
      rw [e2]
      go_wp2_with (refine st_u32 rfl _ _ rfl rfl (T : Int) rfl wbR.out rfl ?_)
      intro wd wdr wdw
      have wdB : Hid (Below w.heap.size w wd) := wdw.below _ _ HGe2.out wbB.out
      have wdR : Hid (BlkAt g2 28 (pkC ⟨1, F, T, 0, 0, 0, [], 0, []⟩ (.slice none 0 0) (.slice none 0 0)) wd) := wdr
      have wdT : Hid (BlkAt g 28 zpk wd) := wbT.out.wrote wdw (by have := HNe.out; omega)
      clear wdr wdw
      have v9 := HC9.out _ wdB.out
      go_wp2_with (refine st_int18 rfl _ _ rfl rfl (x9 : Int) rfl wdR.out rfl ?_)
      intro we wer wew
      have weB : Hid (Below w.heap.size w we) := wew.below _ _ HGe2.out wdB.out
      have weR : Hid (BlkAt g2 28 (pkC ⟨1, F, T, (x9 : Int), 0, 0, [], 0, []⟩ (.slice none 0 0) (.slice none 0 0)) we) := wer
      have weT : Hid (BlkAt g 28 zpk we) := wdT.out.wrote wew (by have := HNe.out; omega)
      clear wer wew
      clear v9
      have va := HCa.out _ weB.out
      go_wp2_with (refine st_int18 rfl _ _ rfl rfl (xa : Int) rfl weR.out rfl ?_)
      intro wf wfr wfw
      have wfB : Hid (Below w.heap.size w wf) := wfw.below _ _ HGe2.out weB.out
      have wfR : Hid (BlkAt g2 28 (pkC ⟨1, F, T, (x9 : Int), (xa : Int), 0, [], 0, []⟩ (.slice none 0 0) (.slice none 0 0)) wf) := wfr
      have wfT : Hid (BlkAt g 28 zpk wf) := weT.out.wrote wfw (by have := HNe.out; omega)
      clear wfr wfw
      clear va
      have vb := HCb.out _ wfB.out
      go_wp2_with (refine st_int18 rfl _ _ rfl rfl (xb : Int) rfl wfR.out rfl ?_)
      intro wg wgr wgw
      have wgB : Hid (Below w.heap.size w wg) := wgw.below _ _ HGe2.out wfB.out
      have wgR : Hid (BlkAt g2 28 (pkC ⟨1, F, T, (x9 : Int), (xa : Int), (xb : Int), [], 0, []⟩ (.slice none 0 0) (.slice none 0 0)) wg) := wgr
      have wgT : Hid (BlkAt g 28 zpk wg) := wfT.out.wrote wgw (by have := HNe.out; omega)
      clear wgr wgw
      clear vb
      go_wp2_with (refine st_sl18 rfl _ _ rfl rfl _ _ _ rfl wgR.out rfl ?_)
      intro wh whr whw
      have whB : Hid (Below w.heap.size w wh) := whw.below _ _ HGe2.out wgB.out
      have whR : Hid (BlkAt g2 28 (pkC ⟨1, F, T, (x9 : Int), (xa : Int), (xb : Int), [], 0, []⟩ (.slice (some ⟨bb, oo + 12, none⟩) 16 (cb - 12)) (.slice none 0 0)) wh) := whr
      have whT : Hid (BlkAt g 28 zpk wh) := wgT.out.wrote whw (by have := HNe.out; omega)
      clear whr whw
      go_wp2_with (refine st_sl18 rfl _ _ rfl rfl _ _ _ rfl whR.out rfl ?_)
      intro wi wir wiw
      have wiB : Hid (Below w.heap.size w wi) := wiw.below _ _ HGe2.out whB.out
      have wiR : Hid (BlkAt g2 28 (pkC ⟨1, F, T, (x9 : Int), (xa : Int), (xb : Int), [], 0, []⟩ (.slice (some ⟨bb, oo + 12, none⟩) 16 (cb - 12)) (.slice (some ⟨bb, oo + 28, none⟩) (L - 28) (cb - 28))) wi) := wir
      have wiT : Hid (BlkAt g 28 zpk wi) := whT.out.wrote wiw (by have := HNe.out; omega)
      clear wir wiw
      replace wiR : Hid (BlkAt g2 28 (pkC ⟨1, F, T, (x9 : Int), (xa : Int), (xb : Int), (b.drop 12).take 16, 0, b.drop 28⟩ (.slice (some ⟨bb, oo + 12, none⟩) 16 (cb - 12)) (.slice (some ⟨bb, oo + 28, none⟩) (L - 28) (cb - 28))) wi) := wiR.out
      have HGc : Hid (gtC b = some (⟨1, F, T, (x9 : Int), (xa : Int), (xb : Int), (b.drop 12).take 16, 0, b.drop 28⟩)) := (HGc0.out : gtC b = some (⟨1, F, T, (x9 : Int), (xa : Int), (xb : Int), (b.drop 12).take 16, 0, b.drop 28⟩))
      go_wp2_with (refine wpList_load_part rfl 28 _ rfl rfl [] (pkC (⟨1, F, T, (x9 : Int), (xa : Int), (xb : Int), (b.drop 12).take 16, 0, b.drop 28⟩) (.slice (some ⟨bb, oo + 12, none⟩) 16 (cb - 12)) (.slice (some ⟨bb, oo + 28, none⟩) (L - 28) (cb - 28))) [] wiR.out (by simp) rfl Try.underlying28 rfl info_pk ?_)
      have HPk : Hid (PkR wi (⟨1, F, T, (x9 : Int), (xa : Int), (xb : Int), (b.drop 12).take 16, 0, b.drop 28⟩) (.slice (some ⟨bb, oo + 12, none⟩) 16 (cb - 12)) (.slice (some ⟨bb, oo + 28, none⟩) (L - 28) (cb - 28))) := ⟨Rd.kept HM1.out wiB.out, Rd.kept HM2.out wiB.out⟩
      refine (may18_any _ _ _ _ rfl _ HPk.out).mono ?_
      rintro e wy ⟨rfl, by9⟩
      have HB9 : Hid (Below w.heap.size w wy) := stepB wiB.out by9
      have R9 : Hid (BlkAt g2 28 (pkC (⟨1, F, T, (x9 : Int), (xa : Int), (xb : Int), (b.drop 12).take 16, 0, b.drop 28⟩) (.slice (some ⟨bb, oo + 12, none⟩) 16 (cb - 12)) (.slice (some ⟨bb, oo + 28, none⟩) (L - 28) (cb - 28))) wy) := wiR.out.kept by9
      have T9 : Hid (BlkAt g 28 zpk wy) := wiT.out.kept by9
      have HV2 : Hid (G = if mayB (⟨1, F, T, (x9 : Int), (xa : Int), (xb : Int), (b.drop 12).take 16, 0, b.drop 28⟩) = true then ((⟨1, F, T, (x9 : Int), (xa : Int), (xb : Int), (b.drop 12).take 16, 0, b.drop 28⟩), 0) else (noPk, 40)) := (by rw [HG2.out, HGc.out] : G = if mayB (⟨1, F, T, (x9 : Int), (xa : Int), (xb : Int), (b.drop 12).take 16, 0, b.drop 28⟩) = true then ((⟨1, F, T, (x9 : Int), (xa : Int), (xb : Int), (b.drop 12).take 16, 0, b.drop 28⟩), 0) else (noPk, 40))
      have HP9 : Hid (PkR wy (⟨1, F, T, (x9 : Int), (xa : Int), (xb : Int), (b.drop 12).take 16, 0, b.drop 28⟩) (.slice (some ⟨bb, oo + 12, none⟩) 16 (cb - 12)) (.slice (some ⟨bb, oo + 28, none⟩) (L - 28) (cb - 28))) := HPk.out.kept by9
      clear by9 HPk wiR wiT wiB HGc
      generalize mayB (⟨1, F, T, (x9 : Int), (xa : Int), (xb : Int), (b.drop 12).take 16, 0, b.drop 28⟩) = mb at HV2
      cases mb
      · have HV : Hid (G = (noPk, 40)) := (by rw [HV2.out]; rfl : G = (noPk, 40))
        go_wp2_with (first | refine wpList_buildB rfl 28 _ rfl #[] (by go_simp) _ (build_pk _) ?_ | (refine wpList_store_part rfl 28 _ _ rfl rfl zpk rfl [] zpk [] zpk T9.out (by simp) (by simp) rfl rfl info_pk one_zpk ?_; intro wz wzr wzw))
        refine bodyPost_pk rfl rfl rfl rfl wzr Try.underlying28 rfl info_pk ?_
        exact HE.out _ HV.out _ (wzw.below _ _ HGe.out HB9.out)
      · have HV : Hid (G = ((⟨1, F, T, (x9 : Int), (xa : Int), (xb : Int), (b.drop 12).take 16, 0, b.drop 28⟩), 0)) := (by rw [HV2.out]; rfl : G = ((⟨1, F, T, (x9 : Int), (xa : Int), (xb : Int), (b.drop 12).take 16, 0, b.drop 28⟩), 0))
        go_wp2_with (first | refine wpList_load_part rfl 28 _ rfl rfl [] (pkC (⟨1, F, T, (x9 : Int), (xa : Int), (xb : Int), (b.drop 12).take 16, 0, b.drop 28⟩) (.slice (some ⟨bb, oo + 12, none⟩) 16 (cb - 12)) (.slice (some ⟨bb, oo + 28, none⟩) (L - 28) (cb - 28))) [] R9.out (by simp) rfl Try.underlying28 rfl info_pk ?_ | (refine wpList_store_part rfl 28 _ _ rfl rfl (pkC (⟨1, F, T, (x9 : Int), (xa : Int), (xb : Int), (b.drop 12).take 16, 0, b.drop 28⟩) (.slice (some ⟨bb, oo + 12, none⟩) 16 (cb - 12)) (.slice (some ⟨bb, oo + 28, none⟩) (L - 28) (cb - 28))) rfl [] zpk [] (pkC (⟨1, F, T, (x9 : Int), (xa : Int), (xb : Int), (b.drop 12).take 16, 0, b.drop 28⟩) (.slice (some ⟨bb, oo + 12, none⟩) 16 (cb - 12)) (.slice (some ⟨bb, oo + 28, none⟩) (L - 28) (cb - 28))) T9.out (by simp) (by simp) rfl rfl info_pk (one_pk _ _ _ _ _ _ _) ?_; intro wz wzr wzw))
        refine bodyPost_pk rfl rfl rfl rfl wzr Try.underlying28 rfl info_pk ?_
        rw [HV.out]
        have bz := wzw.below _ _ HGe.out HB9.out
        exact ⟨_, _, rfl, ⟨Rd.kept HM1.out bz, Rd.kept HM2.out bz⟩, bz⟩
    · subst k1
      have f0 : decide ((28 : Int) < (L : Int)) = false := decide_eq_false (by omega)
      have HV : Hid (G = (noPk, 40)) := (by rw [HG2.out, show gtC b = none by unfold gtC; rw [if_neg (by rw [← HK.out, ← HL.out]; omega), if_neg (by rw [← HK.out, ← HL.out]; omega), if_neg (by rw [← HK.out, ← HL.out]; omega)]] : G = (noPk, 40))
      go_wp2_with (first | refine wpList_buildB rfl 28 _ rfl #[] (by go_simp) _ (build_pk _) ?_ | (refine wpList_store_part rfl 28 _ _ rfl rfl zpk rfl [] zpk [] zpk RT.out (by simp) (by simp) rfl rfl info_pk one_zpk ?_; intro wz wzr wzw))
      refine bodyPost_pk rfl rfl rfl rfl wzr Try.underlying28 rfl info_pk ?_
      exact HE.out _ HV.out _ (wzw.below _ _ HGe.out HB3.out)
  have j1 : ((k : Int) == 1) = false := by rw [beq_eq_false_iff_ne]; omega
  by_cases k2 : k = 2
  · by_cases h21 : L = 21
    · subst k2
      have R3 := R3.out
      have w3R : Hid (BlkAt g2 28 (pkC ⟨2, 0, 0, 0, 0, 0, [], 0, []⟩ (.slice none 0 0) (.slice none 0 0)) w3) := R3
      have w3B : Hid (Below w.heap.size w w3) := HB3.out
      have w3T : Hid (BlkAt g 28 zpk w3) := RT.out
      have f0 : ((L : Int) == 21) = true := by simp [h21]
      have HS1 : Hid (Rd w (.slice (some ⟨bb, oo + 1, none⟩) 4 (cb - 1)) ((b.drop 1).take 4)) := HR.out.sub 1 5 (by omega) (by omega)
      have HM1 : Hid (Rd w (.slice (some ⟨bb, oo + 5, none⟩) (L - 5) (cb - 5)) (b.drop 5)) := by
        have h := HR.out.sub 5 L (by omega) (Nat.le_refl _)
        rw [List.take_of_length_le (by rw [List.length_drop]; have := HL.out; omega)] at h
        exact h
      have HM2 : Hid (Rd w (.slice none 0 0) []) := Rd.nil _
      obtain ⟨T, hT⟩ : ∃ n : Nat, n = leN ((b.drop 1).take 4) := ⟨_, rfl⟩
      have hT2 := le4_lt b 1
      rw [← hT] at hT2
      have e2 : leN (((b.drop 1).take 4).take 8) = T := by rw [hT, take48]
      have y2 : IntKind.u32.wrap (T : Int) = (T : Int) := by rw [IntKind.wrap_u32]; omega
      have HGc0 : Hid (gtC b = some ⟨2, 0, T, 0, 0, 0, b.drop 5, 0, []⟩) := (by unfold gtC; rw [if_neg (by rw [← HK.out]; omega), if_pos (by rw [← HK.out, ← HL.out]; exact ⟨rfl, h21⟩), hT] : gtC b = some ⟨2, 0, T, 0, 0, 0, b.drop 5, 0, []⟩)
      have n2 : (L : Int) ≤ (cb : Int) := by omega
      have n5 : ¬ cb = 1 := by omega
      have n6 : ¬ cb = 5 := by omega
      have n9 : (5 : Int) ≤ (cb : Int) := by omega
      have n1 : (5 : Int) ≤ (L : Int) := by omega
      clear R3 hT HB3 RT h21
      go_wp2_with fail
      refine (refload_any _ _ _ (Rd.kept HS1.out w3B.out)).mono ?_
      rintro e wa ⟨rfl, rfl⟩
      rw [e2]
      go_wp2_with (refine st_u32 rfl _ _ rfl rfl (T : Int) rfl w3R.out rfl ?_)
      intro wd wdr wdw
      have wdB : Hid (Below w.heap.size w wd) := wdw.below _ _ HGe2.out w3B.out
      have wdR : Hid (BlkAt g2 28 (pkC ⟨2, 0, T, 0, 0, 0, [], 0, []⟩ (.slice none 0 0) (.slice none 0 0)) wd) := wdr
      have wdT : Hid (BlkAt g 28 zpk wd) := w3T.out.wrote wdw (by have := HNe.out; omega)
      clear wdr wdw
      go_wp2_with (refine st_sl18 rfl _ _ rfl rfl _ _ _ rfl wdR.out rfl ?_)
      intro we wer wew
      have weB : Hid (Below w.heap.size w we) := wew.below _ _ HGe2.out wdB.out
      have weR : Hid (BlkAt g2 28 (pkC ⟨2, 0, T, 0, 0, 0, [], 0, []⟩ (.slice (some ⟨bb, oo + 5, none⟩) (L - 5) (cb - 5)) (.slice none 0 0)) we) := wer
      have weT : Hid (BlkAt g 28 zpk we) := wdT.out.wrote wew (by have := HNe.out; omega)
      clear wer wew
      replace weR : Hid (BlkAt g2 28 (pkC ⟨2, 0, T, 0, 0, 0, b.drop 5, 0, []⟩ (.slice (some ⟨bb, oo + 5, none⟩) (L - 5) (cb - 5)) (.slice none 0 0)) we) := weR.out
      have HGc : Hid (gtC b = some (⟨2, 0, T, 0, 0, 0, b.drop 5, 0, []⟩)) := (HGc0.out : gtC b = some (⟨2, 0, T, 0, 0, 0, b.drop 5, 0, []⟩))
      go_wp2_with (refine wpList_load_part rfl 28 _ rfl rfl [] (pkC (⟨2, 0, T, 0, 0, 0, b.drop 5, 0, []⟩) (.slice (some ⟨bb, oo + 5, none⟩) (L - 5) (cb - 5)) (.slice none 0 0)) [] weR.out (by simp) rfl Try.underlying28 rfl info_pk ?_)
      have HPk : Hid (PkR we (⟨2, 0, T, 0, 0, 0, b.drop 5, 0, []⟩) (.slice (some ⟨bb, oo + 5, none⟩) (L - 5) (cb - 5)) (.slice none 0 0)) := ⟨Rd.kept HM1.out weB.out, Rd.kept HM2.out weB.out⟩
      refine (may18_any _ _ _ _ rfl _ HPk.out).mono ?_
      rintro e wy ⟨rfl, by9⟩
      have HB9 : Hid (Below w.heap.size w wy) := stepB weB.out by9
      have R9 : Hid (BlkAt g2 28 (pkC (⟨2, 0, T, 0, 0, 0, b.drop 5, 0, []⟩) (.slice (some ⟨bb, oo + 5, none⟩) (L - 5) (cb - 5)) (.slice none 0 0)) wy) := weR.out.kept by9
      have T9 : Hid (BlkAt g 28 zpk wy) := weT.out.kept by9
      have HV2 : Hid (G = if mayB (⟨2, 0, T, 0, 0, 0, b.drop 5, 0, []⟩) = true then ((⟨2, 0, T, 0, 0, 0, b.drop 5, 0, []⟩), 0) else (noPk, 40)) := (by rw [HG2.out, HGc.out] : G = if mayB (⟨2, 0, T, 0, 0, 0, b.drop 5, 0, []⟩) = true then ((⟨2, 0, T, 0, 0, 0, b.drop 5, 0, []⟩), 0) else (noPk, 40))
      have HP9 : Hid (PkR wy (⟨2, 0, T, 0, 0, 0, b.drop 5, 0, []⟩) (.slice (some ⟨bb, oo + 5, none⟩) (L - 5) (cb - 5)) (.slice none 0 0)) := HPk.out.kept by9
      clear by9 HPk weR weT weB HGc
      generalize mayB (⟨2, 0, T, 0, 0, 0, b.drop 5, 0, []⟩) = mb at HV2
      cases mb
      · have HV : Hid (G = (noPk, 40)) := (by rw [HV2.out]; rfl : G = (noPk, 40))
        go_wp2_with (first | refine wpList_buildB rfl 28 _ rfl #[] (by go_simp) _ (build_pk _) ?_ | (refine wpList_store_part rfl 28 _ _ rfl rfl zpk rfl [] zpk [] zpk T9.out (by simp) (by simp) rfl rfl info_pk one_zpk ?_; intro wz wzr wzw))
        refine bodyPost_pk rfl rfl rfl rfl wzr Try.underlying28 rfl info_pk ?_
        exact HE.out _ HV.out _ (wzw.below _ _ HGe.out HB9.out)
      · have HV : Hid (G = ((⟨2, 0, T, 0, 0, 0, b.drop 5, 0, []⟩), 0)) := (by rw [HV2.out]; rfl : G = ((⟨2, 0, T, 0, 0, 0, b.drop 5, 0, []⟩), 0))
        go_wp2_with (first | refine wpList_load_part rfl 28 _ rfl rfl [] (pkC (⟨2, 0, T, 0, 0, 0, b.drop 5, 0, []⟩) (.slice (some ⟨bb, oo + 5, none⟩) (L - 5) (cb - 5)) (.slice none 0 0)) [] R9.out (by simp) rfl Try.underlying28 rfl info_pk ?_ | (refine wpList_store_part rfl 28 _ _ rfl rfl (pkC (⟨2, 0, T, 0, 0, 0, b.drop 5, 0, []⟩) (.slice (some ⟨bb, oo + 5, none⟩) (L - 5) (cb - 5)) (.slice none 0 0)) rfl [] zpk [] (pkC (⟨2, 0, T, 0, 0, 0, b.drop 5, 0, []⟩) (.slice (some ⟨bb, oo + 5, none⟩) (L - 5) (cb - 5)) (.slice none 0 0)) T9.out (by simp) (by simp) rfl rfl info_pk (one_pk _ _ _ _ _ _ _) ?_; intro wz wzr wzw))
        refine bodyPost_pk rfl rfl rfl rfl wzr Try.underlying28 rfl info_pk ?_
        rw [HV.out]
        have bz := wzw.below _ _ HGe.out HB9.out
        exact ⟨_, _, rfl, ⟨Rd.kept HM1.out bz, Rd.kept HM2.out bz⟩, bz⟩
    · have f0 : ((L : Int) == 21) = false := by rw [beq_eq_false_iff_ne]; omega
      subst k2
      have HV : Hid (G = (noPk, 40)) := (by rw [HG2.out, show gtC b = none by unfold gtC; rw [if_neg (by rw [← HK.out, ← HL.out]; omega), if_neg (by rw [← HK.out, ← HL.out]; omega), if_neg (by rw [← HK.out, ← HL.out]; omega)]] : G = (noPk, 40))
      go_wp2_with (first | refine wpList_buildB rfl 28 _ rfl #[] (by go_simp) _ (build_pk _) ?_ | (refine wpList_store_part rfl 28 _ _ rfl rfl zpk rfl [] zpk [] zpk RT.out (by simp) (by simp) rfl rfl info_pk one_zpk ?_; intro wz wzr wzw))
      refine bodyPost_pk rfl rfl rfl rfl wzr Try.underlying28 rfl info_pk ?_
      exact HE.out _ HV.out _ (wzw.below _ _ HGe.out HB3.out)
  have j2 : ((k : Int) == 2) = false := by rw [beq_eq_false_iff_ne]; omega
  by_cases k3 : k = 3
  · by_cases h13 : 13 < L
    · subst k3
      have R3 := R3.out
      have w3R : Hid (BlkAt g2 28 (pkC ⟨3, 0, 0, 0, 0, 0, [], 0, []⟩ (.slice none 0 0) (.slice none 0 0)) w3) := R3
      have w3B : Hid (Below w.heap.size w w3) := HB3.out
      have w3T : Hid (BlkAt g 28 zpk w3) := RT.out
      have f0 : decide ((13 : Int) < (L : Int)) = true := decide_eq_true (by omega)
      have HS1 : Hid (Rd w (.slice (some ⟨bb, oo + 1, none⟩) 4 (cb - 1)) ((b.drop 1).take 4)) := HR.out.sub 1 5 (by omega) (by omega)
      have HS2 : Hid (Rd w (.slice (some ⟨bb, oo + 5, none⟩) 8 (cb - 5)) ((b.drop 5).take 8)) := HR.out.sub 5 13 (by omega) (by omega)
      have HM2 : Hid (Rd w (.slice (some ⟨bb, oo + 13, none⟩) (L - 13) (cb - 13)) (b.drop 13)) := by
        have h := HR.out.sub 13 L (by omega) (Nat.le_refl _)
        rw [List.take_of_length_le (by rw [List.length_drop]; have := HL.out; omega)] at h
        exact h
      have HM1 : Hid (Rd w (.slice none 0 0) []) := Rd.nil _
      obtain ⟨T, hT⟩ : ∃ n : Nat, n = leN ((b.drop 1).take 4) := ⟨_, rfl⟩
      obtain ⟨C, hC⟩ : ∃ n : Nat, n = leN ((b.drop 5).take 8) := ⟨_, rfl⟩
      have hT2 := le4_lt b 1
      rw [← hT] at hT2
      have e2 : leN (((b.drop 1).take 4).take 8) = T := by rw [hT, take48]
      have e3 : leN (((b.drop 5).take 8).take 8) = C := by rw [hC, List.take_take]; rfl
      have y2 : IntKind.u32.wrap (T : Int) = (T : Int) := by rw [IntKind.wrap_u32]; omega
      have HGc0 : Hid (gtC b = some ⟨3, 0, T, 0, 0, 0, [], C, b.drop 13⟩) := (by unfold gtC; rw [if_neg (by rw [← HK.out]; omega), if_neg (by rw [← HK.out]; omega), if_pos (by rw [← HK.out, ← HL.out]; exact ⟨by omega, h13⟩), ← HK.out, hT, hC]; rfl : gtC b = some ⟨3, 0, T, 0, 0, 0, [], C, b.drop 13⟩)
      have n2 : (L : Int) ≤ (cb : Int) := by omega
      have n5 : ¬ cb = 1 := by omega
      have n6 : ¬ cb = 5 := by omega
      have n9 : (5 : Int) ≤ (cb : Int) := by omega
      have n1 : (13 : Int) ≤ (L : Int) := by omega
      have n7 : (13 : Int) ≤ (cb : Int) := by omega
      have n8 : ¬ cb = 13 := by omega
      clear R3 hT hC HB3 RT h13
      go_wp2_with fail
      refine (refload_any _ _ _ (Rd.kept HS1.out w3B.out)).mono ?_
      rintro e wa ⟨rfl, rfl⟩
      rw [e2]
      go_wp2_with (refine st_u32 rfl _ _ rfl rfl (T : Int) rfl w3R.out rfl ?_)
      intro wd wdr wdw
      have wdB : Hid (Below w.heap.size w wd) := wdw.below _ _ HGe2.out w3B.out
      have wdR : Hid (BlkAt g2 28 (pkC ⟨3, 0, T, 0, 0, 0, [], 0, []⟩ (.slice none 0 0) (.slice none 0 0)) wd) := wdr
      have wdT : Hid (BlkAt g 28 zpk wd) := w3T.out.wrote wdw (by have := HNe.out; omega)
      clear wdr wdw
      go_wp2_with fail
      refine (refload_any _ _ _ (Rd.kept HS2.out wdB.out)).mono ?_
      rintro e we ⟨rfl, rfl⟩
      rw [e3]
      go_wp2_with (refine st_u64 rfl _ _ rfl rfl (C : Int) rfl wdR.out rfl ?_)
      intro wf wfr wfw
      have wfB : Hid (Below w.heap.size w wf) := wfw.below _ _ HGe2.out wdB.out
      have wfR : Hid (BlkAt g2 28 (pkC ⟨3, 0, T, 0, 0, 0, [], C, []⟩ (.slice none 0 0) (.slice none 0 0)) wf) := wfr
      have wfT : Hid (BlkAt g 28 zpk wf) := wdT.out.wrote wfw (by have := HNe.out; omega)
      clear wfr wfw
      go_wp2_with (refine st_sl18 rfl _ _ rfl rfl _ _ _ rfl wfR.out rfl ?_)
      intro wg wgr wgw
      have wgB : Hid (Below w.heap.size w wg) := wgw.below _ _ HGe2.out wfB.out
      have wgR : Hid (BlkAt g2 28 (pkC ⟨3, 0, T, 0, 0, 0, [], C, []⟩ (.slice none 0 0) (.slice (some ⟨bb, oo + 13, none⟩) (L - 13) (cb - 13))) wg) := wgr
      have wgT : Hid (BlkAt g 28 zpk wg) := wfT.out.wrote wgw (by have := HNe.out; omega)
      clear wgr wgw
      replace wgR : Hid (BlkAt g2 28 (pkC ⟨3, 0, T, 0, 0, 0, [], C, b.drop 13⟩ (.slice none 0 0) (.slice (some ⟨bb, oo + 13, none⟩) (L - 13) (cb - 13))) wg) := wgR.out
      have HGc : Hid (gtC b = some (⟨3, 0, T, 0, 0, 0, [], C, b.drop 13⟩)) := (HGc0.out : gtC b = some (⟨3, 0, T, 0, 0, 0, [], C, b.drop 13⟩))
      go_wp2_with (refine wpList_load_part rfl 28 _ rfl rfl [] (pkC (⟨3, 0, T, 0, 0, 0, [], C, b.drop 13⟩) (.slice none 0 0) (.slice (some ⟨bb, oo + 13, none⟩) (L - 13) (cb - 13))) [] wgR.out (by simp) rfl Try.underlying28 rfl info_pk ?_)
      have HPk : Hid (PkR wg (⟨3, 0, T, 0, 0, 0, [], C, b.drop 13⟩) (.slice none 0 0) (.slice (some ⟨bb, oo + 13, none⟩) (L - 13) (cb - 13))) := ⟨Rd.kept HM1.out wgB.out, Rd.kept HM2.out wgB.out⟩
      refine (may18_any _ _ _ _ rfl _ HPk.out).mono ?_
      rintro e wy ⟨rfl, by9⟩
      have HB9 : Hid (Below w.heap.size w wy) := stepB wgB.out by9
      have R9 : Hid (BlkAt g2 28 (pkC (⟨3, 0, T, 0, 0, 0, [], C, b.drop 13⟩) (.slice none 0 0) (.slice (some ⟨bb, oo + 13, none⟩) (L - 13) (cb - 13))) wy) := wgR.out.kept by9
      have T9 : Hid (BlkAt g 28 zpk wy) := wgT.out.kept by9
      have HV2 : Hid (G = if mayB (⟨3, 0, T, 0, 0, 0, [], C, b.drop 13⟩) = true then ((⟨3, 0, T, 0, 0, 0, [], C, b.drop 13⟩), 0) else (noPk, 40)) := (by rw [HG2.out, HGc.out] : G = if mayB (⟨3, 0, T, 0, 0, 0, [], C, b.drop 13⟩) = true then ((⟨3, 0, T, 0, 0, 0, [], C, b.drop 13⟩), 0) else (noPk, 40))
      have HP9 : Hid (PkR wy (⟨3, 0, T, 0, 0, 0, [], C, b.drop 13⟩) (.slice none 0 0) (.slice (some ⟨bb, oo + 13, none⟩) (L - 13) (cb - 13))) := HPk.out.kept by9
      clear by9 HPk wgR wgT wgB HGc
      generalize mayB (⟨3, 0, T, 0, 0, 0, [], C, b.drop 13⟩) = mb at HV2
      cases mb
      · have HV : Hid (G = (noPk, 40)) := (by rw [HV2.out]; rfl : G = (noPk, 40))
        go_wp2_with (first | refine wpList_buildB rfl 28 _ rfl #[] (by go_simp) _ (build_pk _) ?_ | (refine wpList_store_part rfl 28 _ _ rfl rfl zpk rfl [] zpk [] zpk T9.out (by simp) (by simp) rfl rfl info_pk one_zpk ?_; intro wz wzr wzw))
        refine bodyPost_pk rfl rfl rfl rfl wzr Try.underlying28 rfl info_pk ?_
        exact HE.out _ HV.out _ (wzw.below _ _ HGe.out HB9.out)
      · have HV : Hid (G = ((⟨3, 0, T, 0, 0, 0, [], C, b.drop 13⟩), 0)) := (by rw [HV2.out]; rfl : G = ((⟨3, 0, T, 0, 0, 0, [], C, b.drop 13⟩), 0))
        go_wp2_with (first | refine wpList_load_part rfl 28 _ rfl rfl [] (pkC (⟨3, 0, T, 0, 0, 0, [], C, b.drop 13⟩) (.slice none 0 0) (.slice (some ⟨bb, oo + 13, none⟩) (L - 13) (cb - 13))) [] R9.out (by simp) rfl Try.underlying28 rfl info_pk ?_ | (refine wpList_store_part rfl 28 _ _ rfl rfl (pkC (⟨3, 0, T, 0, 0, 0, [], C, b.drop 13⟩) (.slice none 0 0) (.slice (some ⟨bb, oo + 13, none⟩) (L - 13) (cb - 13))) rfl [] zpk [] (pkC (⟨3, 0, T, 0, 0, 0, [], C, b.drop 13⟩) (.slice none 0 0) (.slice (some ⟨bb, oo + 13, none⟩) (L - 13) (cb - 13))) T9.out (by simp) (by simp) rfl rfl info_pk (one_pk _ _ _ _ _ _ _) ?_; intro wz wzr wzw))
        refine bodyPost_pk rfl rfl rfl rfl wzr Try.underlying28 rfl info_pk ?_
        rw [HV.out]
        have bz := wzw.below _ _ HGe.out HB9.out
        exact ⟨_, _, rfl, ⟨Rd.kept HM1.out bz, Rd.kept HM2.out bz⟩, bz⟩
    · have f0 : decide ((13 : Int) < (L : Int)) = false := decide_eq_false (by omega)
      subst k3
      have HV : Hid (G = (noPk, 40)) := (by rw [HG2.out, show gtC b = none by unfold gtC; rw [if_neg (by rw [← HK.out, ← HL.out]; omega), if_neg (by rw [← HK.out, ← HL.out]; omega), if_neg (by rw [← HK.out, ← HL.out]; omega)]] : G = (noPk, 40))
      go_wp2_with (first | refine wpList_buildB rfl 28 _ rfl #[] (by go_simp) _ (build_pk _) ?_ | (refine wpList_store_part rfl 28 _ _ rfl rfl zpk rfl [] zpk [] zpk RT.out (by simp) (by simp) rfl rfl info_pk one_zpk ?_; intro wz wzr wzw))
      refine bodyPost_pk rfl rfl rfl rfl wzr Try.underlying28 rfl info_pk ?_
      exact HE.out _ HV.out _ (wzw.below _ _ HGe.out HB3.out)
  have j3 : ((k : Int) == 3) = false := by rw [beq_eq_false_iff_ne]; omega
  by_cases k4 : k = 4
  · by_cases h13 : 13 < L
    · subst k4
      have R3 := R3.out
      have w3R : Hid (BlkAt g2 28 (pkC ⟨4, 0, 0, 0, 0, 0, [], 0, []⟩ (.slice none 0 0) (.slice none 0 0)) w3) := R3
      have w3B : Hid (Below w.heap.size w w3) := HB3.out
      have w3T : Hid (BlkAt g 28 zpk w3) := RT.out
      have f0 : decide ((13 : Int) < (L : Int)) = true := decide_eq_true (by omega)
      have HS1 : Hid (Rd w (.slice (some ⟨bb, oo + 1, none⟩) 4 (cb - 1)) ((b.drop 1).take 4)) := HR.out.sub 1 5 (by omega) (by omega)
      have HS2 : Hid (Rd w (.slice (some ⟨bb, oo + 5, none⟩) 8 (cb - 5)) ((b.drop 5).take 8)) := HR.out.sub 5 13 (by omega) (by omega)
      have HM2 : Hid (Rd w (.slice (some ⟨bb, oo + 13, none⟩) (L - 13) (cb - 13)) (b.drop 13)) := by
        have h := HR.out.sub 13 L (by omega) (Nat.le_refl _)
        rw [List.take_of_length_le (by rw [List.length_drop]; have := HL.out; omega)] at h
        exact h
      have HM1 : Hid (Rd w (.slice none 0 0) []) := Rd.nil _
      obtain ⟨T, hT⟩ : ∃ n : Nat, n = leN ((b.drop 1).take 4) := ⟨_, rfl⟩
      obtain ⟨C, hC⟩ : ∃ n : Nat, n = leN ((b.drop 5).take 8) := ⟨_, rfl⟩
      have hT2 := le4_lt b 1
      rw [← hT] at hT2
      have e2 : leN (((b.drop 1).take 4).take 8) = T := by rw [hT, take48]
      have e3 : leN (((b.drop 5).take 8).take 8) = C := by rw [hC, List.take_take]; rfl
      have y2 : IntKind.u32.wrap (T : Int) = (T : Int) := by rw [IntKind.wrap_u32]; omega
      have HGc0 : Hid (gtC b = some ⟨4, 0, T, 0, 0, 0, [], C, b.drop 13⟩) := (by unfold gtC; rw [if_neg (by rw [← HK.out]; omega), if_neg (by rw [← HK.out]; omega), if_pos (by rw [← HK.out, ← HL.out]; exact ⟨by omega, h13⟩), ← HK.out, hT, hC]; rfl : gtC b = some ⟨4, 0, T, 0, 0, 0, [], C, b.drop 13⟩)
      have n2 : (L : Int) ≤ (cb : Int) := by omega
      have n5 : ¬ cb = 1 := by omega
      have n6 : ¬ cb = 5 := by omega
      have n9 : (5 : Int) ≤ (cb : Int) := by omega
      have n1 : (13 : Int) ≤ (L : Int) := by omega
      have n7 : (13 : Int) ≤ (cb : Int) := by omega
      have n8 : ¬ cb = 13 := by omega
      clear R3 hT hC HB3 RT h13
      go_wp2_with fail
      refine (refload_any _ _ _ (Rd.kept HS1.out w3B.out)).mono ?_
      rintro e wa ⟨rfl, rfl⟩
      rw [e2]
      go_wp2_with (refine st_u32 rfl _ _ rfl rfl (T : Int) rfl w3R.out rfl ?_)
      intro wd wdr wdw
      have wdB : Hid (Below w.heap.size w wd) := wdw.below _ _ HGe2.out w3B.out
      have wdR : Hid (BlkAt g2 28 (pkC ⟨4, 0, T, 0, 0, 0, [], 0, []⟩ (.slice none 0 0) (.slice none 0 0)) wd) := wdr
      have wdT : Hid (BlkAt g 28 zpk wd) := w3T.out.wrote wdw (by have := HNe.out; omega)
      clear wdr wdw
      go_wp2_with fail
      refine (refload_any _ _ _ (Rd.kept HS2.out wdB.out)).mono ?_
      rintro e we ⟨rfl, rfl⟩
      rw [e3]
      go_wp2_with (refine st_u64 rfl _ _ rfl rfl (C : Int) rfl wdR.out rfl ?_)
      intro wf wfr wfw
      have wfB : Hid (Below w.heap.size w wf) := wfw.below _ _ HGe2.out wdB.out
      have wfR : Hid (BlkAt g2 28 (pkC ⟨4, 0, T, 0, 0, 0, [], C, []⟩ (.slice none 0 0) (.slice none 0 0)) wf) := wfr
      have wfT : Hid (BlkAt g 28 zpk wf) := wdT.out.wrote wfw (by have := HNe.out; omega)
      clear wfr wfw
      go_wp2_with (refine st_sl18 rfl _ _ rfl rfl _ _ _ rfl wfR.out rfl ?_)
      intro wg wgr wgw
      have wgB : Hid (Below w.heap.size w wg) := wgw.below _ _ HGe2.out wfB.out
      have wgR : Hid (BlkAt g2 28 (pkC ⟨4, 0, T, 0, 0, 0, [], C, []⟩ (.slice none 0 0) (.slice (some ⟨bb, oo + 13, none⟩) (L - 13) (cb - 13))) wg) := wgr
      have wgT : Hid (BlkAt g 28 zpk wg) := wfT.out.wrote wgw (by have := HNe.out; omega)
      clear wgr wgw
      replace wgR : Hid (BlkAt g2 28 (pkC ⟨4, 0, T, 0, 0, 0, [], C, b.drop 13⟩ (.slice none 0 0) (.slice (some ⟨bb, oo + 13, none⟩) (L - 13) (cb - 13))) wg) := wgR.out
      have HGc : Hid (gtC b = some (⟨4, 0, T, 0, 0, 0, [], C, b.drop 13⟩)) := (HGc0.out : gtC b = some (⟨4, 0, T, 0, 0, 0, [], C, b.drop 13⟩))
      go_wp2_with (refine wpList_load_part rfl 28 _ rfl rfl [] (pkC (⟨4, 0, T, 0, 0, 0, [], C, b.drop 13⟩) (.slice none 0 0) (.slice (some ⟨bb, oo + 13, none⟩) (L - 13) (cb - 13))) [] wgR.out (by simp) rfl Try.underlying28 rfl info_pk ?_)
      have HPk : Hid (PkR wg (⟨4, 0, T, 0, 0, 0, [], C, b.drop 13⟩) (.slice none 0 0) (.slice (some ⟨bb, oo + 13, none⟩) (L - 13) (cb - 13))) := ⟨Rd.kept HM1.out wgB.out, Rd.kept HM2.out wgB.out⟩
      refine (may18_any _ _ _ _ rfl _ HPk.out).mono ?_
      rintro e wy ⟨rfl, by9⟩
      have HB9 : Hid (Below w.heap.size w wy) := stepB wgB.out by9
      have R9 : Hid (BlkAt g2 28 (pkC (⟨4, 0, T, 0, 0, 0, [], C, b.drop 13⟩) (.slice none 0 0) (.slice (some ⟨bb, oo + 13, none⟩) (L - 13) (cb - 13))) wy) := wgR.out.kept by9
      have T9 : Hid (BlkAt g 28 zpk wy) := wgT.out.kept by9
      have HV2 : Hid (G = if mayB (⟨4, 0, T, 0, 0, 0, [], C, b.drop 13⟩) = true then ((⟨4, 0, T, 0, 0, 0, [], C, b.drop 13⟩), 0) else (noPk, 40)) := (by rw [HG2.out, HGc.out] : G = if mayB (⟨4, 0, T, 0, 0, 0, [], C, b.drop 13⟩) = true then ((⟨4, 0, T, 0, 0, 0, [], C, b.drop 13⟩), 0) else (noPk, 40))
      have HP9 : Hid (PkR wy (⟨4, 0, T, 0, 0, 0, [], C, b.drop 13⟩) (.slice none 0 0) (.slice (some ⟨bb, oo + 13, none⟩) (L - 13) (cb - 13))) := HPk.out.kept by9
      clear by9 HPk wgR wgT wgB HGc
      generalize mayB (⟨4, 0, T, 0, 0, 0, [], C, b.drop 13⟩) = mb at HV2
      cases mb
      · have HV : Hid (G = (noPk, 40)) := (by rw [HV2.out]; rfl : G = (noPk, 40))
        go_wp2_with (first | refine wpList_buildB rfl 28 _ rfl #[] (by go_simp) _ (build_pk _) ?_ | (refine wpList_store_part rfl 28 _ _ rfl rfl zpk rfl [] zpk [] zpk T9.out (by simp) (by simp) rfl rfl info_pk one_zpk ?_; intro wz wzr wzw))
        refine bodyPost_pk rfl rfl rfl rfl wzr Try.underlying28 rfl info_pk ?_
        exact HE.out _ HV.out _ (wzw.below _ _ HGe.out HB9.out)
      · have HV : Hid (G = ((⟨4, 0, T, 0, 0, 0, [], C, b.drop 13⟩), 0)) := (by rw [HV2.out]; rfl : G = ((⟨4, 0, T, 0, 0, 0, [], C, b.drop 13⟩), 0))
        go_wp2_with (first | refine wpList_load_part rfl 28 _ rfl rfl [] (pkC (⟨4, 0, T, 0, 0, 0, [], C, b.drop 13⟩) (.slice none 0 0) (.slice (some ⟨bb, oo + 13, none⟩) (L - 13) (cb - 13))) [] R9.out (by simp) rfl Try.underlying28 rfl info_pk ?_ | (refine wpList_store_part rfl 28 _ _ rfl rfl (pkC (⟨4, 0, T, 0, 0, 0, [], C, b.drop 13⟩) (.slice none 0 0) (.slice (some ⟨bb, oo + 13, none⟩) (L - 13) (cb - 13))) rfl [] zpk [] (pkC (⟨4, 0, T, 0, 0, 0, [], C, b.drop 13⟩) (.slice none 0 0) (.slice (some ⟨bb, oo + 13, none⟩) (L - 13) (cb - 13))) T9.out (by simp) (by simp) rfl rfl info_pk (one_pk _ _ _ _ _ _ _) ?_; intro wz wzr wzw))
        refine bodyPost_pk rfl rfl rfl rfl wzr Try.underlying28 rfl info_pk ?_
        rw [HV.out]
        have bz := wzw.below _ _ HGe.out HB9.out
        exact ⟨_, _, rfl, ⟨Rd.kept HM1.out bz, Rd.kept HM2.out bz⟩, bz⟩
    · have f0 : decide ((13 : Int) < (L : Int)) = false := decide_eq_false (by omega)
      subst k4
      have HV : Hid (G = (noPk, 40)) := (by rw [HG2.out, show gtC b = none by unfold gtC; rw [if_neg (by rw [← HK.out, ← HL.out]; omega), if_neg (by rw [← HK.out, ← HL.out]; omega), if_neg (by rw [← HK.out, ← HL.out]; omega)]] : G = (noPk, 40))
      go_wp2_with (first | refine wpList_buildB rfl 28 _ rfl #[] (by go_simp) _ (build_pk _) ?_ | (refine wpList_store_part rfl 28 _ _ rfl rfl zpk rfl [] zpk [] zpk RT.out (by simp) (by simp) rfl rfl info_pk one_zpk ?_; intro wz wzr wzw))
      refine bodyPost_pk rfl rfl rfl rfl wzr Try.underlying28 rfl info_pk ?_
      exact HE.out _ HV.out _ (wzw.below _ _ HGe.out HB3.out)
  have j4 : ((k : Int) == 4) = false := by rw [beq_eq_false_iff_ne]; omega
  have HV : Hid (G = (noPk, 40)) := (by rw [HG2.out, show gtC b = none by unfold gtC; rw [if_neg (by rw [← HK.out, ← HL.out]; omega), if_neg (by rw [← HK.out, ← HL.out]; omega), if_neg (by rw [← HK.out, ← HL.out]; omega)]] : G = (noPk, 40))
  go_wp2_with (first | refine wpList_buildB rfl 28 _ rfl #[] (by go_simp) _ (build_pk _) ?_ | (refine wpList_store_part rfl 28 _ _ rfl rfl zpk rfl [] zpk [] zpk RT.out (by simp) (by simp) rfl rfl info_pk one_zpk ?_; intro wz wzr wzw))
  refine bodyPost_pk rfl rfl rfl rfl wzr Try.underlying28 rfl info_pk ?_
  exact HE.out _ HV.out _ (wzw.below _ _ HGe.out HB3.out)
end Go.Proofs.Ytonnngndknoljaa
