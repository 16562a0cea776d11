/- A pattern's text: contracts of the reference of layer 15, tenth part. -/
import Derived.Test.YtpoibhhijidobaaGreatDoorQa
import Derived.Laws.Concat
namespace Go.Proofs.YtpoibhhijidobaaGreatDoor
open Go.ChangeShapes Go.WideShapes Go.ChangeAt Go.RowKit
set_option linter.unusedSimpArgs false
set_option linter.unusedVariables false

/-- One text behind another. -/
theorem addT (x y z : List UInt8) (hz : z = x ++ y) (hx : x.length ≤ 100000) (hy : y.length ≤ 100000) (W : World) : (Op.stringOp .add ⟨x.toArray⟩ ⟨y.toArray⟩).run Tryz.prog W = .ok (.string ⟨z.toArray⟩) W := by
  subst hz
  exact run_string_add_lists W x y (by omega) (by omega)

theorem cellT15 {w W : World} {p : Addr} {v : Value} (h : w.cell? p = some v) (hb : Below w.heap.size w W) : W.cell? p = some v := by
  rw [hb.cell (World.block_lt_of_cell? _ _ h)]
  exact h
theorem cellD15 {w W : World} {p : Addr} {v : Value} (h : w.cell? p = some v) (hb : Below w.drew.heap.size w.drew W) : W.cell? p = some v := cellT15 (w := w.drew) h hb

set_option maxRecDepth 100000 in
set_option maxHeartbeats 16000000 in
theorem text15_any (p : Ptn) (hp : p.name.length ≤ 1000000) (A : Array Value) (vi vl : Value) (hA : A = (ptC p vi vl).toArray) (w : World) (hR : PtR w p vi vl) :
    Calls Tryz.prog 16 #[.agg A] w fun e w' => e = .returned (.string ⟨(txT p).toArray⟩) ∧ Below w.heap.size w w' := by
  obtain ⟨al, cl, rfl, hl1, hl2⟩ := hR.len
  obtain ⟨ai, ci, rfl, hi1, hi2⟩ := hR.lenI
  unfold maxLen at hl2 hi2
  obtain ⟨n, hn⟩ : ∃ n : Nat, n = p.n := ⟨_, rfl⟩
  rw [← hn] at hR hl1 hi1 hA
  have HN : Hid (n = p.n) := hn
  have HR : Hid (PtR w p (.slice ai n ci) (.slice al n cl)) := hR
  have HP : Hid (p.name.length ≤ 1000000) := hp
  clear hR hn hp
  go_enter Tryz.func16, Tryz.ntmps16
  go_wp2_with (refine wpList_box_blk rfl 33 _ rfl (ptC p (.slice ai n ci) (.slice al n cl)) (by rw [← hA]; rfl) ?_)
  intro w1 hB b1 s1
  have hB0 : BlkAt w.heap.size 33 ([] ++ ptC p (.slice ai n ci) (.slice al n cl) ++ []) w1 := by rw [List.append_nil]; exact hB
  have hR1 := HR.out.kept b1
  have hbw := b1
  clear hB b1 s1 hA
  go_wp2_with (refine wpList_load_blk rfl 33 _ rfl (g := w.heap.size) (o := 0) (by go_simp; done) hB0 rfl Tryz.underlying33 rfl (ptInfo _ _ _) ?_)
  refine (written15_any p HP.out _ _ _ rfl _ hR1).mono ?_
  rintro e w2 ⟨rfl, b2⟩
  replace hB0 := hB0.kept b2
  replace hR1 := hR1.kept b2
  replace hbw := stepB hbw b2
  clear b2
  by_cases hw : wrB p = true
  · have HW : Hid (wrB p = true) := hw
    have HS : Hid (PtS p) := PtS.of hw
    have hn8 : n ≤ 8 := by rw [HN.out]; exact HS.out.n
    have HNm : Hid (p.name.length ≤ 32) := by
      show _ ≤ _
      unfold wrB nmB at hw
      simp only [Bool.and_eq_true, decide_eq_true_eq] at hw
      omega
    rw [hw]
    have c0 : w2.cell? ⟨w.heap.size, 0, none⟩ = some (.string ⟨p.name.toArray⟩) := by rw [hB0.cell]; rfl
    have c1 : w2.cell? ⟨w.heap.size, 1, none⟩ = some (.bool p.ki) := by rw [hB0.cell]; rfl
    have c2 : w2.cell? ⟨w.heap.size, 2, none⟩ = some (.bool p.kr) := by rw [hB0.cell]; rfl
    have HTA := txA_len HNm.out
    obtain ⟨TA, hTA⟩ : ∃ l : List UInt8, l = txA p := ⟨_, rfl⟩
    have HTd : Hid (TA = txA p) := hTA
    unfold txA at hTA
    obtain ⟨N0, hN0⟩ : ∃ l : List UInt8, l = p.name := ⟨_, rfl⟩
    rw [← hN0] at c0 hTA HNm
    obtain ⟨ki, hki⟩ : ∃ b : Bool, b = p.ki := ⟨_, rfl⟩
    obtain ⟨kr, hkr⟩ : ∃ b : Bool, b = p.kr := ⟨_, rfl⟩
    rw [← hki] at c1 hTA
    rw [← hkr] at c2 hTA
    have HTl : Hid (TA.length ≤ 60) := by show _ ≤ _; rw [HTd.out]; exact HTA
    clear hw hN0 hki hkr HTA
    obtain ⟨S1, hS1⟩ : ∃ l : List UInt8, l = N0 ++ [58, 10] := ⟨_, rfl⟩
    have HS1 : Hid (S1.length ≤ 34) := by have := HNm.out; show _ ≤ _; rw [hS1]; simp; omega
    have a1 := addT N0 [58, 10] S1 hS1 (by have := HNm.out; omega) (by decide)
    rw [← hS1] at hTA
    clear hS1
    cases ki <;> cases kr
    · simp only [if_true, Bool.false_eq_true, if_false, Bool.or_false, Bool.false_or, Bool.or_true, Bool.true_or, List.append_nil] at hTA
      subst hTA
      have HB : Hid (BlkAt w.heap.size 33 ([] ++ ptC p (.slice ai n ci) (.slice al n cl) ++ []) w2 ∧ PtR w2 p (.slice ai n ci) (.slice al n cl)) := ⟨hB0, hR1⟩
      have c4 : w2.cell? ⟨w.heap.size, 4, none⟩ = some (.slice al n cl) := by rw [hB0.cell]; rfl
      clear hB0 hR1
      go_wp2
      go_loopw [4, 5] (fun sv iv wx => ∃ (i : Nat) (s : List UInt8), i ≤ n ∧ iv = .int .i64 (i : Int) ∧ sv = .string ⟨s.toArray⟩ ∧ Hid (s = TA ++ txS p i) ∧ Below w2.heap.size w2 wx) (fun _ iv _ => n - (intOf iv).toNat)
      case atStart => exact ⟨0, TA, by omega, rfl, rfl, (by show _ = _; simp [txS]), Below.refl _ _⟩
      case round =>
        obtain ⟨i, s, hi, rfl, rfl, HI, hbx⟩ := hrel
        clear c0 c1 c2 a1
        have hB2 := HB.out.1.kept hbx
        have hR2 := HB.out.2.kept hbx
        have c4' : wr.cell? ⟨w.heap.size, 4, none⟩ = some (.slice al n cl) := by rw [hB2.cell]; rfl
        have c3 : wr.cell? ⟨w.heap.size, 3, none⟩ = some (.slice ai n ci) := by rw [hB2.cell]; rfl
        by_cases hlt : i < n
        · have hd : decide ((i : Int) < (n : Int)) = true := decide_eq_true (by omega)
          have hiI : (i : Int) < (n : Int) := by omega
          have HMn : Hid (i < p.n) := by show _ < _; rw [← HN.out]; exact hlt
          have HSl : Hid (s.length ≤ 700) := by
            show _ ≤ _
            have h1 := txS_len HS.out i (by have := HMn.out; omega)
            have h2 := HTl.out
            rw [HI.out, List.length_append]
            omega
          obtain ⟨gl, ol, vr, rfl, hcr, hrr⟩ := hR2.row (m := i) HMn.out
          obtain ⟨gi, oi, rfl, hci⟩ := hR2.who (m := i) HMn.out
          obtain ⟨bi, hbi⟩ : ∃ b : Bool, b = p.ini i := ⟨_, rfl⟩
          rw [← hbi] at hci
          obtain ⟨ar, cr, rfl, hr2, hr3, -, -⟩ := id hrr
          unfold maxLen at hr3
          obtain ⟨M, hM⟩ : ∃ M : Nat, M = (p.tk i).length := ⟨_, rfl⟩
          rw [← hM] at hcr hr2
          have HM : Hid (M = (p.tk i).length) := hM
          have hM12 : M ≤ 12 := by rw [hM]; exact HS.out.t i HMn.out
          have HRr : Hid (RdI .i64 wr (.slice ar M cr) (p.tk i)) := by rw [hM]; exact hrr
          obtain ⟨S2, hS2⟩ : ∃ l : List UInt8, l = s ++ txD bi := ⟨_, rfl⟩
          have a2 := addT s (txD bi) S2 hS2 (by have := HSl.out; omega) (by rw [txD_len]; omega)
          have HS2 : Hid (S2 = TA ++ txS p i ++ txD (p.ini i)) := by show _ = _; rw [hS2, HI.out, hbi]
          have HSl2 : Hid (S2.length ≤ 705) := by have := HSl.out; show _ ≤ _; rw [hS2, List.length_append, txD_len]; omega
          have HWd : Hid (∀ j, j < M → 1 ≤ (p.tk i).getD j 0 ∧ (p.tk i).getD j 0 ≤ 10) := by
            show ∀ j, _
            intro j hj
            exact HS.out.x i HMn.out j (by rw [← HM.out]; exact hj)
          clear hS2 hrr hM hbi
          rename World => wv
          cases bi
          all_goals
            unfold txD at a2
            simp only [if_true, Bool.false_eq_true, if_false] at a2
            go_wp2
            go_loopw [4, 6] (fun sv jv wx => ∃ (j : Nat) (s : List UInt8), j ≤ M ∧ jv = .int .i64 (j : Int) ∧ sv = .string ⟨s.toArray⟩ ∧ Hid (s = S2 ++ txR (p.tk i) j) ∧ Below wv.heap.size wv wx) (fun _ jv _ => M - (intOf jv).toNat)
            case atStart => exact ⟨0, S2, by omega, rfl, rfl, (by show _ = _; simp [txR]), Below.refl _ _⟩
            case round =>
              obtain ⟨j, s, hj, rfl, rfl, HJ, hby⟩ := hrel
              clear a2
              have e4 := cellT15 c4' hby
              have er := cellT15 hcr hby
              have HSl3 : Hid (s.length ≤ 800) := by
                show _ ≤ _
                have h1 := txR_len (p.tk i) j
                have h2 := HSl2.out
                rw [HJ.out, List.length_append]
                omega
              by_cases hltj : j < M
              · have hdj : decide ((j : Int) < (M : Int)) = true := decide_eq_true (by omega)
                have hjI : (j : Int) < (M : Int) := by omega
                obtain ⟨gr, or, c', ev, -, hcj, -⟩ := (HRr.out.kept hby).cellAt (i := j) (by rw [← HM.out]; exact hltj)
                simp only [Value.slice.injEq] at ev
                obtain ⟨rfl, -, rfl⟩ := ev
                have hx := HWd.out j hltj
                obtain ⟨x, hxe⟩ : ∃ x : Int, x = (p.tk i).getD j 0 := ⟨_, rfl⟩
                rw [← hxe] at hcj hx
                obtain ⟨q, rfl⟩ : ∃ q : Nat, x = (q : Int) := ⟨x.toNat, by omega⟩
                have hq11 : q < 11 := by omega
                have hqI : (q : Int) < 11 := by omega
                obtain ⟨sep, hsep⟩ : ∃ l : List UInt8, l = if 0 < j then [44, 32] else [] := ⟨_, rfl⟩
                obtain ⟨S3, hS3⟩ : ∃ l : List UInt8, l = s ++ sep := ⟨_, rfl⟩
                have HS3l : Hid (S3.length ≤ 802) := by
                  have := HSl3.out
                  show _ ≤ _
                  rw [hS3, List.length_append, hsep]
                  split <;> simp <;> omega
                obtain ⟨wd, hwd⟩ : ∃ l : List UInt8, l = wdL.getD q [] := ⟨_, rfl⟩
                obtain ⟨S4, hS4⟩ : ∃ l : List UInt8, l = S3 ++ wd := ⟨_, rfl⟩
                have HA4 : Hid (∀ W : World, (Op.stringOp .add ⟨S3.toArray⟩ ⟨wd.toArray⟩).run Tryz.prog W = .ok (.string ⟨S4.toArray⟩) W) := addT S3 wd S4 hS4 (by have := HS3l.out; omega) (by have := wdL_len q; rw [hwd]; omega)
                have HWd2 : Hid (wd = wdL.getD q []) := hwd
                have HJ2 : Hid (S4 = S2 ++ txR (p.tk i) (j + 1)) := by
                  show _ = _
                  rw [hS4, hwd, hS3, hsep, HJ.out]
                  show _ = S2 ++ (txR (p.tk i) j ++ _ ++ wdL.getD ((p.tk i).getD j 0).toNat [])
                  rw [← hxe, Int.toNat_natCast]
                  simp
                have hcase : (j = 0 ∧ S3 = s) ∨ (decide ((0 : Int) < (j : Int)) = true ∧ (0 : Int) < (j : Int) ∧ ∀ W : World, (Op.stringOp .add ⟨s.toArray⟩ ⟨[44, 32].toArray⟩).run Tryz.prog W = .ok (.string ⟨S3.toArray⟩) W) := by
                  by_cases h : j = 0
                  · left
                    refine ⟨h, ?_⟩
                    rw [hS3, hsep, h]
                    simp
                  · right
                    refine ⟨decide_eq_true (by omega), by omega, addT s [44, 32] S3 (by rw [hS3, hsep, if_pos (by omega)]) (by have := HSl3.out; omega) (by decide)⟩
                clear hsep hS3 hS4 hxe hwd
                have HCj : Hid _ := hcj
                have HE4 : Hid _ := e4
                have HEr : Hid _ := er
                rcases hcase with ⟨rfl, rfl⟩ | ⟨g1, g2, g3⟩
                · have HCj : Hid (wr.cell? ⟨gr, or, none⟩ = some (.int .i64 (q : Int))) := HCj.out
                  go_wp2_with fail
                  have hB9 := hB2.kept hby
                  refine wpG_begin (by kernel_rfl) ?_
                  refine wpG_take (i := 0) (oi := { dst := some 60, op := Op.move (Operand.tmp 4), type := 9, pos := "ref.go:78", after := #[], guard := none }) (v := ?_) rfl (by kernel_rfl) (by kernel_rfl) (by kernel_rfl) (by rfl) ?_ ?_
                  rotate_left
                  · intro W hW; first | (go_simp; done) | (go_simp; with_reducible rfl)
                  try simp only [Act.put, List.setIfInBounds_toArray, List.set_cons_zero, List.set_cons_succ]
                  refine wpG_take (i := 2) (oi := { dst := some 62, op := Op.fieldAddr 33 (Operand.tmp 1) 4, type := 0, pos := "ref.go:78", after := #[], guard := none }) (v := ?_) rfl (by kernel_rfl) (by kernel_rfl) (by kernel_rfl) (by rfl) ?_ ?_
                  rotate_left
                  · intro W hW; first | (go_simp; done) | (go_simp; with_reducible rfl)
                  try simp only [Act.put, List.setIfInBounds_toArray, List.set_cons_zero, List.set_cons_succ]
                  refine wpG_take (i := 3) (oi := { dst := some 63, op := Op.load 31 (Operand.tmp 62), type := 31, pos := "ref.go:78", after := #[{ on := 2, ground := Ground.data }], guard := none }) (v := ?_) rfl (by kernel_rfl) (by kernel_rfl) (by kernel_rfl) (by rfl) ?_ ?_
                  rotate_left
                  · intro W hW; have hcW := cellD15 HE4.out hW; first | (go_simp; done) | (go_simp; with_reducible rfl)
                  try simp only [Act.put, List.setIfInBounds_toArray, List.set_cons_zero, List.set_cons_succ]
                  refine wpG_take (i := 4) (oi := { dst := some 64, op := Op.move (Operand.tmp 5), type := 3, pos := "ref.go:78", after := #[], guard := none }) (v := ?_) rfl (by kernel_rfl) (by kernel_rfl) (by kernel_rfl) (by rfl) ?_ ?_
                  rotate_left
                  · intro W hW; first | (go_simp; done) | (go_simp; with_reducible rfl)
                  try simp only [Act.put, List.setIfInBounds_toArray, List.set_cons_zero, List.set_cons_succ]
                  refine wpG_take (i := 5) (oi := { dst := some 65, op := Op.indexAddr 31 (Operand.tmp 63) (Operand.tmp 64), type := 0, pos := "ref.go:78", after := #[{ on := 3, ground := Ground.data }, { on := 4, ground := Ground.data }], guard := none }) (v := ?_) rfl (by kernel_rfl) (by kernel_rfl) (by kernel_rfl) (by rfl) ?_ ?_
                  rotate_left
                  · intro W hW; first | (go_simp; done) | (go_simp; with_reducible rfl)
                  try simp only [Act.put, List.setIfInBounds_toArray, List.set_cons_zero, List.set_cons_succ]
                  refine wpG_take (i := 6) (oi := { dst := some 66, op := Op.load 71 (Operand.tmp 65), type := 71, pos := "ref.go:78", after := #[{ on := 5, ground := Ground.data }], guard := none }) (v := ?_) rfl (by kernel_rfl) (by kernel_rfl) (by kernel_rfl) (by rfl) ?_ ?_
                  rotate_left
                  · intro W hW; have hcW := cellD15 HEr.out hW; first | (go_simp; done) | (go_simp; with_reducible rfl)
                  try simp only [Act.put, List.setIfInBounds_toArray, List.set_cons_zero, List.set_cons_succ]
                  refine wpG_take (i := 7) (oi := { dst := some 67, op := Op.move (Operand.tmp 6), type := 3, pos := "ref.go:78", after := #[], guard := none }) (v := ?_) rfl (by kernel_rfl) (by kernel_rfl) (by kernel_rfl) (by rfl) ?_ ?_
                  rotate_left
                  · intro W hW; first | (go_simp; done) | (go_simp; with_reducible rfl)
                  try simp only [Act.put, List.setIfInBounds_toArray, List.set_cons_zero, List.set_cons_succ]
                  refine wpG_take (i := 8) (oi := { dst := some 68, op := Op.indexAddr 71 (Operand.tmp 66) (Operand.tmp 67), type := 0, pos := "ref.go:78", after := #[{ on := 6, ground := Ground.data }, { on := 7, ground := Ground.data }], guard := none }) (v := ?_) rfl (by kernel_rfl) (by kernel_rfl) (by kernel_rfl) (by rfl) ?_ ?_
                  rotate_left
                  · intro W hW; first | (go_simp; done) | (go_simp; with_reducible rfl)
                  try simp only [Act.put, List.setIfInBounds_toArray, List.set_cons_zero, List.set_cons_succ]
                  refine wpG_take (i := 9) (oi := { dst := some 69, op := Op.load 3 (Operand.tmp 68), type := 3, pos := "ref.go:78", after := #[{ on := 8, ground := Ground.data }], guard := none }) (v := ?_) rfl (by kernel_rfl) (by kernel_rfl) (by kernel_rfl) (by rfl) ?_ ?_
                  rotate_left
                  · intro W hW; have hcW := cellD15 HCj.out hW; first | (go_simp; done) | (go_simp; with_reducible rfl)
                  try simp only [Act.put, List.setIfInBounds_toArray, List.set_cons_zero, List.set_cons_succ]
                  refine wpG_do (i := 1) (o := { dst := some 61, op := Op.call { callee := Callee.value (Operand.func 39), args := #[], argTypes := #[] }, type := 62, pos := "ref.go:78", after := #[], guard := none }) (by kernel_rfl) rfl (by rfl) fun K hK => ?_
                  go_simp
                  refine (words15_any _).mono ?_
                  rintro e w8 ⟨vw, rfl, hrw, b8⟩
                  obtain ⟨gw, ow, cw, rfl, hw1, hw2, hcw⟩ := hrw.cellAt (i := q) hq11
                  have hsw : (stC wdL)[q]'hq11 = Value.string ⟨(wdL.getD q []).toArray⟩ := by
                    have : q < wdL.length := hq11
                    simp [stC, this]
                  rw [hsw, ← HWd2.out] at hcw
                  clear hsw
                  rw [show (stC wdL).length = 11 from rfl] at hw1 ⊢
                  unfold maxLen at hw2
                  refine hK.out _ _ b8 ?_
                  clear hK K
                  try simp only [Act.put, List.setIfInBounds_toArray, List.set_cons_zero, List.set_cons_succ]
                  refine wpG_take (i := 10) (oi := { dst := some 70, op := Op.indexAddr 62 (Operand.tmp 61) (Operand.tmp 69), type := 0, pos := "ref.go:78", after := #[{ on := 1, ground := Ground.data }, { on := 9, ground := Ground.data }], guard := none }) (v := ?_) rfl (by kernel_rfl) (by kernel_rfl) (by kernel_rfl) (by rfl) ?_ ?_
                  rotate_left
                  · intro W hW; first | (go_simp; done) | (go_simp; with_reducible rfl)
                  try simp only [Act.put, List.setIfInBounds_toArray, List.set_cons_zero, List.set_cons_succ]
                  refine wpG_take (i := 11) (oi := { dst := some 71, op := Op.load 9 (Operand.tmp 70), type := 9, pos := "ref.go:78", after := #[{ on := 10, ground := Ground.data }], guard := none }) (v := ?_) rfl (by kernel_rfl) (by kernel_rfl) (by kernel_rfl) (by rfl) ?_ ?_
                  rotate_left
                  · intro W hW; have hcW := cellT15 hcw hW; first | (go_simp; done) | (go_simp; with_reducible rfl)
                  try simp only [Act.put, List.setIfInBounds_toArray, List.set_cons_zero, List.set_cons_succ]
                  refine wpG_take (i := 12) (oi := { dst := some 72, op := Op.binOp BinOp.add 9 (Operand.tmp 60) (Operand.tmp 71) 9, type := 9, pos := "ref.go:78", after := #[{ on := 0, ground := Ground.data }, { on := 11, ground := Ground.data }], guard := none }) (v := ?_) rfl (by kernel_rfl) (by kernel_rfl) (by kernel_rfl) (by rfl) ?_ ?_
                  rotate_left
                  · intro W hW; have hA4 := HA4.out W; first | (go_simp; done) | (go_simp; with_reducible rfl)
                  try simp only [Act.put, List.setIfInBounds_toArray, List.set_cons_zero, List.set_cons_succ]
                  refine wpG_take (i := 13) (oi := { dst := some 4, op := Op.assign (Operand.tmp 72), type := 9, pos := "ref.go:78", after := #[{ on := 12, ground := Ground.data }, { on := 1, ground := Ground.chain }, { on := 0, ground := Ground.phase }, { on := 1, ground := Ground.phase }, { on := 2, ground := Ground.phase }, { on := 3, ground := Ground.phase }, { on := 4, ground := Ground.phase }, { on := 5, ground := Ground.phase }, { on := 6, ground := Ground.phase }, { on := 7, ground := Ground.phase }, { on := 8, ground := Ground.phase }, { on := 9, ground := Ground.phase }, { on := 10, ground := Ground.phase }, { on := 11, ground := Ground.phase }, { on := 12, ground := Ground.phase }], guard := none }) (v := ?_) rfl (by kernel_rfl) (by kernel_rfl) (by kernel_rfl) (by rfl) ?_ ?_
                  rotate_left
                  · intro W hW; first | (go_simp; done) | (go_simp; with_reducible rfl)
                  try simp only [Act.put, List.setIfInBounds_toArray, List.set_cons_zero, List.set_cons_succ]
                  refine wpG_done (by kernel_rfl) ?_
                  have hbz := stepB hby.drew b8
                  go_wp2
                  go_roundw
                  case rel => exact ⟨1, S4, by omega, by go_num, rfl, HJ2, hbz⟩
                  case measure => simp [intOf] <;> omega
                · go_wp2_with fail
                  have hB9 := hB2.kept hby
                  refine wpG_begin (by kernel_rfl) ?_
                  refine wpG_take (i := 0) (oi := { dst := some 60, op := Op.move (Operand.tmp 4), type := 9, pos := "ref.go:78", after := #[], guard := none }) (v := ?_) rfl (by kernel_rfl) (by kernel_rfl) (by kernel_rfl) (by rfl) ?_ ?_
                  rotate_left
                  · intro W hW; first | (go_simp; done) | (go_simp; with_reducible rfl)
                  try simp only [Act.put, List.setIfInBounds_toArray, List.set_cons_zero, List.set_cons_succ]
                  refine wpG_take (i := 2) (oi := { dst := some 62, op := Op.fieldAddr 33 (Operand.tmp 1) 4, type := 0, pos := "ref.go:78", after := #[], guard := none }) (v := ?_) rfl (by kernel_rfl) (by kernel_rfl) (by kernel_rfl) (by rfl) ?_ ?_
                  rotate_left
                  · intro W hW; first | (go_simp; done) | (go_simp; with_reducible rfl)
                  try simp only [Act.put, List.setIfInBounds_toArray, List.set_cons_zero, List.set_cons_succ]
                  refine wpG_take (i := 3) (oi := { dst := some 63, op := Op.load 31 (Operand.tmp 62), type := 31, pos := "ref.go:78", after := #[{ on := 2, ground := Ground.data }], guard := none }) (v := ?_) rfl (by kernel_rfl) (by kernel_rfl) (by kernel_rfl) (by rfl) ?_ ?_
                  rotate_left
                  · intro W hW; have hcW := cellD15 HE4.out hW; first | (go_simp; done) | (go_simp; with_reducible rfl)
                  try simp only [Act.put, List.setIfInBounds_toArray, List.set_cons_zero, List.set_cons_succ]
                  refine wpG_take (i := 4) (oi := { dst := some 64, op := Op.move (Operand.tmp 5), type := 3, pos := "ref.go:78", after := #[], guard := none }) (v := ?_) rfl (by kernel_rfl) (by kernel_rfl) (by kernel_rfl) (by rfl) ?_ ?_
                  rotate_left
                  · intro W hW; first | (go_simp; done) | (go_simp; with_reducible rfl)
                  try simp only [Act.put, List.setIfInBounds_toArray, List.set_cons_zero, List.set_cons_succ]
                  refine wpG_take (i := 5) (oi := { dst := some 65, op := Op.indexAddr 31 (Operand.tmp 63) (Operand.tmp 64), type := 0, pos := "ref.go:78", after := #[{ on := 3, ground := Ground.data }, { on := 4, ground := Ground.data }], guard := none }) (v := ?_) rfl (by kernel_rfl) (by kernel_rfl) (by kernel_rfl) (by rfl) ?_ ?_
                  rotate_left
                  · intro W hW; first | (go_simp; done) | (go_simp; with_reducible rfl)
                  try simp only [Act.put, List.setIfInBounds_toArray, List.set_cons_zero, List.set_cons_succ]
                  refine wpG_take (i := 6) (oi := { dst := some 66, op := Op.load 71 (Operand.tmp 65), type := 71, pos := "ref.go:78", after := #[{ on := 5, ground := Ground.data }], guard := none }) (v := ?_) rfl (by kernel_rfl) (by kernel_rfl) (by kernel_rfl) (by rfl) ?_ ?_
                  rotate_left
                  · intro W hW; have hcW := cellD15 HEr.out hW; first | (go_simp; done) | (go_simp; with_reducible rfl)
                  try simp only [Act.put, List.setIfInBounds_toArray, List.set_cons_zero, List.set_cons_succ]
                  refine wpG_take (i := 7) (oi := { dst := some 67, op := Op.move (Operand.tmp 6), type := 3, pos := "ref.go:78", after := #[], guard := none }) (v := ?_) rfl (by kernel_rfl) (by kernel_rfl) (by kernel_rfl) (by rfl) ?_ ?_
                  rotate_left
                  · intro W hW; first | (go_simp; done) | (go_simp; with_reducible rfl)
                  try simp only [Act.put, List.setIfInBounds_toArray, List.set_cons_zero, List.set_cons_succ]
                  refine wpG_take (i := 8) (oi := { dst := some 68, op := Op.indexAddr 71 (Operand.tmp 66) (Operand.tmp 67), type := 0, pos := "ref.go:78", after := #[{ on := 6, ground := Ground.data }, { on := 7, ground := Ground.data }], guard := none }) (v := ?_) rfl (by kernel_rfl) (by kernel_rfl) (by kernel_rfl) (by rfl) ?_ ?_
                  rotate_left
                  · intro W hW; first | (go_simp; done) | (go_simp; with_reducible rfl)
                  try simp only [Act.put, List.setIfInBounds_toArray, List.set_cons_zero, List.set_cons_succ]
                  refine wpG_take (i := 9) (oi := { dst := some 69, op := Op.load 3 (Operand.tmp 68), type := 3, pos := "ref.go:78", after := #[{ on := 8, ground := Ground.data }], guard := none }) (v := ?_) rfl (by kernel_rfl) (by kernel_rfl) (by kernel_rfl) (by rfl) ?_ ?_
                  rotate_left
                  · intro W hW; have hcW := cellD15 HCj.out hW; first | (go_simp; done) | (go_simp; with_reducible rfl)
                  try simp only [Act.put, List.setIfInBounds_toArray, List.set_cons_zero, List.set_cons_succ]
                  refine wpG_do (i := 1) (o := { dst := some 61, op := Op.call { callee := Callee.value (Operand.func 39), args := #[], argTypes := #[] }, type := 62, pos := "ref.go:78", after := #[], guard := none }) (by kernel_rfl) rfl (by rfl) fun K hK => ?_
                  go_simp
                  refine (words15_any _).mono ?_
                  rintro e w8 ⟨vw, rfl, hrw, b8⟩
                  obtain ⟨gw, ow, cw, rfl, hw1, hw2, hcw⟩ := hrw.cellAt (i := q) hq11
                  have hsw : (stC wdL)[q]'hq11 = Value.string ⟨(wdL.getD q []).toArray⟩ := by
                    have : q < wdL.length := hq11
                    simp [stC, this]
                  rw [hsw, ← HWd2.out] at hcw
                  clear hsw
                  rw [show (stC wdL).length = 11 from rfl] at hw1 ⊢
                  unfold maxLen at hw2
                  refine hK.out _ _ b8 ?_
                  clear hK K
                  try simp only [Act.put, List.setIfInBounds_toArray, List.set_cons_zero, List.set_cons_succ]
                  refine wpG_take (i := 10) (oi := { dst := some 70, op := Op.indexAddr 62 (Operand.tmp 61) (Operand.tmp 69), type := 0, pos := "ref.go:78", after := #[{ on := 1, ground := Ground.data }, { on := 9, ground := Ground.data }], guard := none }) (v := ?_) rfl (by kernel_rfl) (by kernel_rfl) (by kernel_rfl) (by rfl) ?_ ?_
                  rotate_left
                  · intro W hW; first | (go_simp; done) | (go_simp; with_reducible rfl)
                  try simp only [Act.put, List.setIfInBounds_toArray, List.set_cons_zero, List.set_cons_succ]
                  refine wpG_take (i := 11) (oi := { dst := some 71, op := Op.load 9 (Operand.tmp 70), type := 9, pos := "ref.go:78", after := #[{ on := 10, ground := Ground.data }], guard := none }) (v := ?_) rfl (by kernel_rfl) (by kernel_rfl) (by kernel_rfl) (by rfl) ?_ ?_
                  rotate_left
                  · intro W hW; have hcW := cellT15 hcw hW; first | (go_simp; done) | (go_simp; with_reducible rfl)
                  try simp only [Act.put, List.setIfInBounds_toArray, List.set_cons_zero, List.set_cons_succ]
                  refine wpG_take (i := 12) (oi := { dst := some 72, op := Op.binOp BinOp.add 9 (Operand.tmp 60) (Operand.tmp 71) 9, type := 9, pos := "ref.go:78", after := #[{ on := 0, ground := Ground.data }, { on := 11, ground := Ground.data }], guard := none }) (v := ?_) rfl (by kernel_rfl) (by kernel_rfl) (by kernel_rfl) (by rfl) ?_ ?_
                  rotate_left
                  · intro W hW; have hA4 := HA4.out W; first | (go_simp; done) | (go_simp; with_reducible rfl)
                  try simp only [Act.put, List.setIfInBounds_toArray, List.set_cons_zero, List.set_cons_succ]
                  refine wpG_take (i := 13) (oi := { dst := some 4, op := Op.assign (Operand.tmp 72), type := 9, pos := "ref.go:78", after := #[{ on := 12, ground := Ground.data }, { on := 1, ground := Ground.chain }, { on := 0, ground := Ground.phase }, { on := 1, ground := Ground.phase }, { on := 2, ground := Ground.phase }, { on := 3, ground := Ground.phase }, { on := 4, ground := Ground.phase }, { on := 5, ground := Ground.phase }, { on := 6, ground := Ground.phase }, { on := 7, ground := Ground.phase }, { on := 8, ground := Ground.phase }, { on := 9, ground := Ground.phase }, { on := 10, ground := Ground.phase }, { on := 11, ground := Ground.phase }, { on := 12, ground := Ground.phase }], guard := none }) (v := ?_) rfl (by kernel_rfl) (by kernel_rfl) (by kernel_rfl) (by rfl) ?_ ?_
                  rotate_left
                  · intro W hW; first | (go_simp; done) | (go_simp; with_reducible rfl)
                  try simp only [Act.put, List.setIfInBounds_toArray, List.set_cons_zero, List.set_cons_succ]
                  refine wpG_done (by kernel_rfl) ?_
                  have hbz := stepB hby.drew b8
                  go_wp2
                  go_roundw
                  case rel => exact ⟨j + 1, S4, by omega, by go_num, rfl, HJ2, hbz⟩
                  case measure => simp [intOf] <;> omega
              · have hdj : decide ((j : Int) < (M : Int)) = false := decide_eq_false (by omega)
                have hjI : (M : Int) ≤ (j : Int) := by omega
                obtain ⟨S5, hS5⟩ : ∃ l : List UInt8, l = s ++ [10] := ⟨_, rfl⟩
                have a5 := addT s [10] S5 hS5 (by have := HSl3.out; omega) (by decide)
                have HI2 : Hid (S5 = TA ++ txS p (i + 1)) := by
                  show _ = _
                  rw [hS5, HJ.out, HS2.out, show j = (p.tk i).length by have := HM.out; omega]
                  show _ = TA ++ (txS p i ++ (txD (p.ini i) ++ txR (p.tk i) (p.tk i).length ++ [10]))
                  simp
                have hbz := stepB hbx hby
                clear hS5
                go_wp2
                go_roundw
                case rel => exact ⟨i + 1, S5, by omega, by go_num, rfl, HI2, hbz⟩
                case measure => simp [intOf] <;> omega
        · have hd : decide ((i : Int) < (n : Int)) = false := decide_eq_false (by omega)
          have hiI : (n : Int) ≤ (i : Int) := by omega
          have HO : Hid (txT p = s) := by
            show _ = _
            unfold txT
            rw [if_pos HW.out, HI.out, HTd.out, show i = p.n by have := HN.out; omega]
          have hbz := stepB hbw hbx
          go_wp2
          go_ret
          exact ⟨by rw [HO.out]; rfl, hbz⟩
    · simp only [if_true, Bool.false_eq_true, if_false, Bool.or_false, Bool.false_or, Bool.or_true, Bool.true_or, List.append_nil] at hTA
      obtain ⟨S2h, hS2h⟩ : ∃ l : List UInt8, l = S1 ++ [32, 32, 60, 45, 32, 115, 10] := ⟨_, rfl⟩
      have HS2h : Hid (S2h.length ≤ 42) := by have := HS1.out; show _ ≤ _; rw [hS2h, List.length_append]; simp; omega
      have a2 := addT S1 [32, 32, 60, 45, 32, 115, 10] S2h hS2h (by have := HS1.out; omega) (by decide)
      rw [← hS2h] at hTA
      clear hS2h
      have a3 := addT S2h [32, 32, 46, 46, 46, 10] TA hTA (by have := HS2h.out; omega) (by decide)
      clear hTA
      have HB : Hid (BlkAt w.heap.size 33 ([] ++ ptC p (.slice ai n ci) (.slice al n cl) ++ []) w2 ∧ PtR w2 p (.slice ai n ci) (.slice al n cl)) := ⟨hB0, hR1⟩
      have c4 : w2.cell? ⟨w.heap.size, 4, none⟩ = some (.slice al n cl) := by rw [hB0.cell]; rfl
      clear hB0 hR1
      go_wp2
      go_loopw [4, 5] (fun sv iv wx => ∃ (i : Nat) (s : List UInt8), i ≤ n ∧ iv = .int .i64 (i : Int) ∧ sv = .string ⟨s.toArray⟩ ∧ Hid (s = TA ++ txS p i) ∧ Below w2.heap.size w2 wx) (fun _ iv _ => n - (intOf iv).toNat)
      case atStart => exact ⟨0, TA, by omega, rfl, rfl, (by show _ = _; simp [txS]), Below.refl _ _⟩
      case round =>
        obtain ⟨i, s, hi, rfl, rfl, HI, hbx⟩ := hrel
        clear c0 c1 c2 a1
        have hB2 := HB.out.1.kept hbx
        have hR2 := HB.out.2.kept hbx
        have c4' : wr.cell? ⟨w.heap.size, 4, none⟩ = some (.slice al n cl) := by rw [hB2.cell]; rfl
        have c3 : wr.cell? ⟨w.heap.size, 3, none⟩ = some (.slice ai n ci) := by rw [hB2.cell]; rfl
        by_cases hlt : i < n
        · have hd : decide ((i : Int) < (n : Int)) = true := decide_eq_true (by omega)
          have hiI : (i : Int) < (n : Int) := by omega
          have HMn : Hid (i < p.n) := by show _ < _; rw [← HN.out]; exact hlt
          have HSl : Hid (s.length ≤ 700) := by
            show _ ≤ _
            have h1 := txS_len HS.out i (by have := HMn.out; omega)
            have h2 := HTl.out
            rw [HI.out, List.length_append]
            omega
          obtain ⟨gl, ol, vr, rfl, hcr, hrr⟩ := hR2.row (m := i) HMn.out
          obtain ⟨gi, oi, rfl, hci⟩ := hR2.who (m := i) HMn.out
          obtain ⟨bi, hbi⟩ : ∃ b : Bool, b = p.ini i := ⟨_, rfl⟩
          rw [← hbi] at hci
          obtain ⟨ar, cr, rfl, hr2, hr3, -, -⟩ := id hrr
          unfold maxLen at hr3
          obtain ⟨M, hM⟩ : ∃ M : Nat, M = (p.tk i).length := ⟨_, rfl⟩
          rw [← hM] at hcr hr2
          have HM : Hid (M = (p.tk i).length) := hM
          have hM12 : M ≤ 12 := by rw [hM]; exact HS.out.t i HMn.out
          have HRr : Hid (RdI .i64 wr (.slice ar M cr) (p.tk i)) := by rw [hM]; exact hrr
          obtain ⟨S2, hS2⟩ : ∃ l : List UInt8, l = s ++ txD bi := ⟨_, rfl⟩
          have a2 := addT s (txD bi) S2 hS2 (by have := HSl.out; omega) (by rw [txD_len]; omega)
          have HS2 : Hid (S2 = TA ++ txS p i ++ txD (p.ini i)) := by show _ = _; rw [hS2, HI.out, hbi]
          have HSl2 : Hid (S2.length ≤ 705) := by have := HSl.out; show _ ≤ _; rw [hS2, List.length_append, txD_len]; omega
          have HWd : Hid (∀ j, j < M → 1 ≤ (p.tk i).getD j 0 ∧ (p.tk i).getD j 0 ≤ 10) := by
            show ∀ j, _
            intro j hj
            exact HS.out.x i HMn.out j (by rw [← HM.out]; exact hj)
          clear hS2 hrr hM hbi
          rename World => wv
          cases bi
          all_goals
            unfold txD at a2
            simp only [if_true, Bool.false_eq_true, if_false] at a2
            go_wp2
            go_loopw [4, 6] (fun sv jv wx => ∃ (j : Nat) (s : List UInt8), j ≤ M ∧ jv = .int .i64 (j : Int) ∧ sv = .string ⟨s.toArray⟩ ∧ Hid (s = S2 ++ txR (p.tk i) j) ∧ Below wv.heap.size wv wx) (fun _ jv _ => M - (intOf jv).toNat)
            case atStart => exact ⟨0, S2, by omega, rfl, rfl, (by show _ = _; simp [txR]), Below.refl _ _⟩
            case round =>
              obtain ⟨j, s, hj, rfl, rfl, HJ, hby⟩ := hrel
              clear a2
              have e4 := cellT15 c4' hby
              have er := cellT15 hcr hby
              have HSl3 : Hid (s.length ≤ 800) := by
                show _ ≤ _
                have h1 := txR_len (p.tk i) j
                have h2 := HSl2.out
                rw [HJ.out, List.length_append]
                omega
              by_cases hltj : j < M
              · have hdj : decide ((j : Int) < (M : Int)) = true := decide_eq_true (by omega)
                have hjI : (j : Int) < (M : Int) := by omega
                obtain ⟨gr, or, c', ev, -, hcj, -⟩ := (HRr.out.kept hby).cellAt (i := j) (by rw [← HM.out]; exact hltj)
                simp only [Value.slice.injEq] at ev
                obtain ⟨rfl, -, rfl⟩ := ev
                have hx := HWd.out j hltj
                obtain ⟨x, hxe⟩ : ∃ x : Int, x = (p.tk i).getD j 0 := ⟨_, rfl⟩
                rw [← hxe] at hcj hx
                obtain ⟨q, rfl⟩ : ∃ q : Nat, x = (q : Int) := ⟨x.toNat, by omega⟩
                have hq11 : q < 11 := by omega
                have hqI : (q : Int) < 11 := by omega
                obtain ⟨sep, hsep⟩ : ∃ l : List UInt8, l = if 0 < j then [44, 32] else [] := ⟨_, rfl⟩
                obtain ⟨S3, hS3⟩ : ∃ l : List UInt8, l = s ++ sep := ⟨_, rfl⟩
                have HS3l : Hid (S3.length ≤ 802) := by
                  have := HSl3.out
                  show _ ≤ _
                  rw [hS3, List.length_append, hsep]
                  split <;> simp <;> omega
                obtain ⟨wd, hwd⟩ : ∃ l : List UInt8, l = wdL.getD q [] := ⟨_, rfl⟩
                obtain ⟨S4, hS4⟩ : ∃ l : List UInt8, l = S3 ++ wd := ⟨_, rfl⟩
                have HA4 : Hid (∀ W : World, (Op.stringOp .add ⟨S3.toArray⟩ ⟨wd.toArray⟩).run Tryz.prog W = .ok (.string ⟨S4.toArray⟩) W) := addT S3 wd S4 hS4 (by have := HS3l.out; omega) (by have := wdL_len q; rw [hwd]; omega)
                have HWd2 : Hid (wd = wdL.getD q []) := hwd
                have HJ2 : Hid (S4 = S2 ++ txR (p.tk i) (j + 1)) := by
                  show _ = _
                  rw [hS4, hwd, hS3, hsep, HJ.out]
                  show _ = S2 ++ (txR (p.tk i) j ++ _ ++ wdL.getD ((p.tk i).getD j 0).toNat [])
                  rw [← hxe, Int.toNat_natCast]
                  simp
                have hcase : (j = 0 ∧ S3 = s) ∨ (decide ((0 : Int) < (j : Int)) = true ∧ (0 : Int) < (j : Int) ∧ ∀ W : World, (Op.stringOp .add ⟨s.toArray⟩ ⟨[44, 32].toArray⟩).run Tryz.prog W = .ok (.string ⟨S3.toArray⟩) W) := by
                  by_cases h : j = 0
                  · left
                    refine ⟨h, ?_⟩
                    rw [hS3, hsep, h]
                    simp
                  · right
                    refine ⟨decide_eq_true (by omega), by omega, addT s [44, 32] S3 (by rw [hS3, hsep, if_pos (by omega)]) (by have := HSl3.out; omega) (by decide)⟩
                clear hsep hS3 hS4 hxe hwd
                have HCj : Hid _ := hcj
                have HE4 : Hid _ := e4
                have HEr : Hid _ := er
                rcases hcase with ⟨rfl, rfl⟩ | ⟨g1, g2, g3⟩
                · have HCj : Hid (wr.cell? ⟨gr, or, none⟩ = some (.int .i64 (q : Int))) := HCj.out
                  go_wp2_with fail
                  have hB9 := hB2.kept hby
                  refine wpG_begin (by kernel_rfl) ?_
                  refine wpG_take (i := 0) (oi := { dst := some 60, op := Op.move (Operand.tmp 4), type := 9, pos := "ref.go:78", after := #[], guard := none }) (v := ?_) rfl (by kernel_rfl) (by kernel_rfl) (by kernel_rfl) (by rfl) ?_ ?_
                  rotate_left
                  · intro W hW; first | (go_simp; done) | (go_simp; with_reducible rfl)
                  try simp only [Act.put, List.setIfInBounds_toArray, List.set_cons_zero, List.set_cons_succ]
                  refine wpG_take (i := 2) (oi := { dst := some 62, op := Op.fieldAddr 33 (Operand.tmp 1) 4, type := 0, pos := "ref.go:78", after := #[], guard := none }) (v := ?_) rfl (by kernel_rfl) (by kernel_rfl) (by kernel_rfl) (by rfl) ?_ ?_
                  rotate_left
                  · intro W hW; first | (go_simp; done) | (go_simp; with_reducible rfl)
                  try simp only [Act.put, List.setIfInBounds_toArray, List.set_cons_zero, List.set_cons_succ]
                  refine wpG_take (i := 3) (oi := { dst := some 63, op := Op.load 31 (Operand.tmp 62), type := 31, pos := "ref.go:78", after := #[{ on := 2, ground := Ground.data }], guard := none }) (v := ?_) rfl (by kernel_rfl) (by kernel_rfl) (by kernel_rfl) (by rfl) ?_ ?_
                  rotate_left
                  · intro W hW; have hcW := cellD15 HE4.out hW; first | (go_simp; done) | (go_simp; with_reducible rfl)
                  try simp only [Act.put, List.setIfInBounds_toArray, List.set_cons_zero, List.set_cons_succ]
                  refine wpG_take (i := 4) (oi := { dst := some 64, op := Op.move (Operand.tmp 5), type := 3, pos := "ref.go:78", after := #[], guard := none }) (v := ?_) rfl (by kernel_rfl) (by kernel_rfl) (by kernel_rfl) (by rfl) ?_ ?_
                  rotate_left
                  · intro W hW; first | (go_simp; done) | (go_simp; with_reducible rfl)
                  try simp only [Act.put, List.setIfInBounds_toArray, List.set_cons_zero, List.set_cons_succ]
                  refine wpG_take (i := 5) (oi := { dst := some 65, op := Op.indexAddr 31 (Operand.tmp 63) (Operand.tmp 64), type := 0, pos := "ref.go:78", after := #[{ on := 3, ground := Ground.data }, { on := 4, ground := Ground.data }], guard := none }) (v := ?_) rfl (by kernel_rfl) (by kernel_rfl) (by kernel_rfl) (by rfl) ?_ ?_
                  rotate_left
                  · intro W hW; first | (go_simp; done) | (go_simp; with_reducible rfl)
                  try simp only [Act.put, List.setIfInBounds_toArray, List.set_cons_zero, List.set_cons_succ]
                  refine wpG_take (i := 6) (oi := { dst := some 66, op := Op.load 71 (Operand.tmp 65), type := 71, pos := "ref.go:78", after := #[{ on := 5, ground := Ground.data }], guard := none }) (v := ?_) rfl (by kernel_rfl) (by kernel_rfl) (by kernel_rfl) (by rfl) ?_ ?_
                  rotate_left
                  · intro W hW; have hcW := cellD15 HEr.out hW; first | (go_simp; done) | (go_simp; with_reducible rfl)
                  try simp only [Act.put, List.setIfInBounds_toArray, List.set_cons_zero, List.set_cons_succ]
                  refine wpG_take (i := 7) (oi := { dst := some 67, op := Op.move (Operand.tmp 6), type := 3, pos := "ref.go:78", after := #[], guard := none }) (v := ?_) rfl (by kernel_rfl) (by kernel_rfl) (by kernel_rfl) (by rfl) ?_ ?_
                  rotate_left
                  · intro W hW; first | (go_simp; done) | (go_simp; with_reducible rfl)
                  try simp only [Act.put, List.setIfInBounds_toArray, List.set_cons_zero, List.set_cons_succ]
                  refine wpG_take (i := 8) (oi := { dst := some 68, op := Op.indexAddr 71 (Operand.tmp 66) (Operand.tmp 67), type := 0, pos := "ref.go:78", after := #[{ on := 6, ground := Ground.data }, { on := 7, ground := Ground.data }], guard := none }) (v := ?_) rfl (by kernel_rfl) (by kernel_rfl) (by kernel_rfl) (by rfl) ?_ ?_
                  rotate_left
                  · intro W hW; first | (go_simp; done) | (go_simp; with_reducible rfl)
                  try simp only [Act.put, List.setIfInBounds_toArray, List.set_cons_zero, List.set_cons_succ]
                  refine wpG_take (i := 9) (oi := { dst := some 69, op := Op.load 3 (Operand.tmp 68), type := 3, pos := "ref.go:78", after := #[{ on := 8, ground := Ground.data }], guard := none }) (v := ?_) rfl (by kernel_rfl) (by kernel_rfl) (by kernel_rfl) (by rfl) ?_ ?_
                  rotate_left
                  · intro W hW; have hcW := cellD15 HCj.out hW; first | (go_simp; done) | (go_simp; with_reducible rfl)
                  try simp only [Act.put, List.setIfInBounds_toArray, List.set_cons_zero, List.set_cons_succ]
                  refine wpG_do (i := 1) (o := { dst := some 61, op := Op.call { callee := Callee.value (Operand.func 39), args := #[], argTypes := #[] }, type := 62, pos := "ref.go:78", after := #[], guard := none }) (by kernel_rfl) rfl (by rfl) fun K hK => ?_
                  go_simp
                  refine (words15_any _).mono ?_
                  rintro e w8 ⟨vw, rfl, hrw, b8⟩
                  obtain ⟨gw, ow, cw, rfl, hw1, hw2, hcw⟩ := hrw.cellAt (i := q) hq11
                  have hsw : (stC wdL)[q]'hq11 = Value.string ⟨(wdL.getD q []).toArray⟩ := by
                    have : q < wdL.length := hq11
                    simp [stC, this]
                  rw [hsw, ← HWd2.out] at hcw
                  clear hsw
                  rw [show (stC wdL).length = 11 from rfl] at hw1 ⊢
                  unfold maxLen at hw2
                  refine hK.out _ _ b8 ?_
                  clear hK K
                  try simp only [Act.put, List.setIfInBounds_toArray, List.set_cons_zero, List.set_cons_succ]
                  refine wpG_take (i := 10) (oi := { dst := some 70, op := Op.indexAddr 62 (Operand.tmp 61) (Operand.tmp 69), type := 0, pos := "ref.go:78", after := #[{ on := 1, ground := Ground.data }, { on := 9, ground := Ground.data }], guard := none }) (v := ?_) rfl (by kernel_rfl) (by kernel_rfl) (by kernel_rfl) (by rfl) ?_ ?_
                  rotate_left
                  · intro W hW; first | (go_simp; done) | (go_simp; with_reducible rfl)
                  try simp only [Act.put, List.setIfInBounds_toArray, List.set_cons_zero, List.set_cons_succ]
                  refine wpG_take (i := 11) (oi := { dst := some 71, op := Op.load 9 (Operand.tmp 70), type := 9, pos := "ref.go:78", after := #[{ on := 10, ground := Ground.data }], guard := none }) (v := ?_) rfl (by kernel_rfl) (by kernel_rfl) (by kernel_rfl) (by rfl) ?_ ?_
                  rotate_left
                  · intro W hW; have hcW := cellT15 hcw hW; first | (go_simp; done) | (go_simp; with_reducible rfl)
                  try simp only [Act.put, List.setIfInBounds_toArray, List.set_cons_zero, List.set_cons_succ]
                  refine wpG_take (i := 12) (oi := { dst := some 72, op := Op.binOp BinOp.add 9 (Operand.tmp 60) (Operand.tmp 71) 9, type := 9, pos := "ref.go:78", after := #[{ on := 0, ground := Ground.data }, { on := 11, ground := Ground.data }], guard := none }) (v := ?_) rfl (by kernel_rfl) (by kernel_rfl) (by kernel_rfl) (by rfl) ?_ ?_
                  rotate_left
                  · intro W hW; have hA4 := HA4.out W; first | (go_simp; done) | (go_simp; with_reducible rfl)
                  try simp only [Act.put, List.setIfInBounds_toArray, List.set_cons_zero, List.set_cons_succ]
                  refine wpG_take (i := 13) (oi := { dst := some 4, op := Op.assign (Operand.tmp 72), type := 9, pos := "ref.go:78", after := #[{ on := 12, ground := Ground.data }, { on := 1, ground := Ground.chain }, { on := 0, ground := Ground.phase }, { on := 1, ground := Ground.phase }, { on := 2, ground := Ground.phase }, { on := 3, ground := Ground.phase }, { on := 4, ground := Ground.phase }, { on := 5, ground := Ground.phase }, { on := 6, ground := Ground.phase }, { on := 7, ground := Ground.phase }, { on := 8, ground := Ground.phase }, { on := 9, ground := Ground.phase }, { on := 10, ground := Ground.phase }, { on := 11, ground := Ground.phase }, { on := 12, ground := Ground.phase }], guard := none }) (v := ?_) rfl (by kernel_rfl) (by kernel_rfl) (by kernel_rfl) (by rfl) ?_ ?_
                  rotate_left
                  · intro W hW; first | (go_simp; done) | (go_simp; with_reducible rfl)
                  try simp only [Act.put, List.setIfInBounds_toArray, List.set_cons_zero, List.set_cons_succ]
                  refine wpG_done (by kernel_rfl) ?_
                  have hbz := stepB hby.drew b8
                  go_wp2
                  go_roundw
                  case rel => exact ⟨1, S4, by omega, by go_num, rfl, HJ2, hbz⟩
                  case measure => simp [intOf] <;> omega
                · go_wp2_with fail
                  have hB9 := hB2.kept hby
                  refine wpG_begin (by kernel_rfl) ?_
                  refine wpG_take (i := 0) (oi := { dst := some 60, op := Op.move (Operand.tmp 4), type := 9, pos := "ref.go:78", after := #[], guard := none }) (v := ?_) rfl (by kernel_rfl) (by kernel_rfl) (by kernel_rfl) (by rfl) ?_ ?_
                  rotate_left
                  · intro W hW; first | (go_simp; done) | (go_simp; with_reducible rfl)
                  try simp only [Act.put, List.setIfInBounds_toArray, List.set_cons_zero, List.set_cons_succ]
                  refine wpG_take (i := 2) (oi := { dst := some 62, op := Op.fieldAddr 33 (Operand.tmp 1) 4, type := 0, pos := "ref.go:78", after := #[], guard := none }) (v := ?_) rfl (by kernel_rfl) (by kernel_rfl) (by kernel_rfl) (by rfl) ?_ ?_
                  rotate_left
                  · intro W hW; first | (go_simp; done) | (go_simp; with_reducible rfl)
                  try simp only [Act.put, List.setIfInBounds_toArray, List.set_cons_zero, List.set_cons_succ]
                  refine wpG_take (i := 3) (oi := { dst := some 63, op := Op.load 31 (Operand.tmp 62), type := 31, pos := "ref.go:78", after := #[{ on := 2, ground := Ground.data }], guard := none }) (v := ?_) rfl (by kernel_rfl) (by kernel_rfl) (by kernel_rfl) (by rfl) ?_ ?_
                  rotate_left
                  · intro W hW; have hcW := cellD15 HE4.out hW; first | (go_simp; done) | (go_simp; with_reducible rfl)
                  try simp only [Act.put, List.setIfInBounds_toArray, List.set_cons_zero, List.set_cons_succ]
                  refine wpG_take (i := 4) (oi := { dst := some 64, op := Op.move (Operand.tmp 5), type := 3, pos := "ref.go:78", after := #[], guard := none }) (v := ?_) rfl (by kernel_rfl) (by kernel_rfl) (by kernel_rfl) (by rfl) ?_ ?_
                  rotate_left
                  · intro W hW; first | (go_simp; done) | (go_simp; with_reducible rfl)
                  try simp only [Act.put, List.setIfInBounds_toArray, List.set_cons_zero, List.set_cons_succ]
                  refine wpG_take (i := 5) (oi := { dst := some 65, op := Op.indexAddr 31 (Operand.tmp 63) (Operand.tmp 64), type := 0, pos := "ref.go:78", after := #[{ on := 3, ground := Ground.data }, { on := 4, ground := Ground.data }], guard := none }) (v := ?_) rfl (by kernel_rfl) (by kernel_rfl) (by kernel_rfl) (by rfl) ?_ ?_
                  rotate_left
                  · intro W hW; first | (go_simp; done) | (go_simp; with_reducible rfl)
                  try simp only [Act.put, List.setIfInBounds_toArray, List.set_cons_zero, List.set_cons_succ]
                  refine wpG_take (i := 6) (oi := { dst := some 66, op := Op.load 71 (Operand.tmp 65), type := 71, pos := "ref.go:78", after := #[{ on := 5, ground := Ground.data }], guard := none }) (v := ?_) rfl (by kernel_rfl) (by kernel_rfl) (by kernel_rfl) (by rfl) ?_ ?_
                  rotate_left
                  · intro W hW; have hcW := cellD15 HEr.out hW; first | (go_simp; done) | (go_simp; with_reducible rfl)
                  try simp only [Act.put, List.setIfInBounds_toArray, List.set_cons_zero, List.set_cons_succ]
                  refine wpG_take (i := 7) (oi := { dst := some 67, op := Op.move (Operand.tmp 6), type := 3, pos := "ref.go:78", after := #[], guard := none }) (v := ?_) rfl (by kernel_rfl) (by kernel_rfl) (by kernel_rfl) (by rfl) ?_ ?_
                  rotate_left
                  · intro W hW; first | (go_simp; done) | (go_simp; with_reducible rfl)
                  try simp only [Act.put, List.setIfInBounds_toArray, List.set_cons_zero, List.set_cons_succ]
                  refine wpG_take (i := 8) (oi := { dst := some 68, op := Op.indexAddr 71 (Operand.tmp 66) (Operand.tmp 67), type := 0, pos := "ref.go:78", after := #[{ on := 6, ground := Ground.data }, { on := 7, ground := Ground.data }], guard := none }) (v := ?_) rfl (by kernel_rfl) (by kernel_rfl) (by kernel_rfl) (by rfl) ?_ ?_
                  rotate_left
                  · intro W hW; first | (go_simp; done) | (go_simp; with_reducible rfl)
                  try simp only [Act.put, List.setIfInBounds_toArray, List.set_cons_zero, List.set_cons_succ]
                  refine wpG_take (i := 9) (oi := { dst := some 69, op := Op.load 3 (Operand.tmp 68), type := 3, pos := "ref.go:78", after := #[{ on := 8, ground := Ground.data }], guard := none }) (v := ?_) rfl (by kernel_rfl) (by kernel_rfl) (by kernel_rfl) (by rfl) ?_ ?_
                  rotate_left
                  · intro W hW; have hcW := cellD15 HCj.out hW; first | (go_simp; done) | (go_simp; with_reducible rfl)
                  try simp only [Act.put, List.setIfInBounds_toArray, List.set_cons_zero, List.set_cons_succ]
                  refine wpG_do (i := 1) (o := { dst := some 61, op := Op.call { callee := Callee.value (Operand.func 39), args := #[], argTypes := #[] }, type := 62, pos := "ref.go:78", after := #[], guard := none }) (by kernel_rfl) rfl (by rfl) fun K hK => ?_
                  go_simp
                  refine (words15_any _).mono ?_
                  rintro e w8 ⟨vw, rfl, hrw, b8⟩
                  obtain ⟨gw, ow, cw, rfl, hw1, hw2, hcw⟩ := hrw.cellAt (i := q) hq11
                  have hsw : (stC wdL)[q]'hq11 = Value.string ⟨(wdL.getD q []).toArray⟩ := by
                    have : q < wdL.length := hq11
                    simp [stC, this]
                  rw [hsw, ← HWd2.out] at hcw
                  clear hsw
                  rw [show (stC wdL).length = 11 from rfl] at hw1 ⊢
                  unfold maxLen at hw2
                  refine hK.out _ _ b8 ?_
                  clear hK K
                  try simp only [Act.put, List.setIfInBounds_toArray, List.set_cons_zero, List.set_cons_succ]
                  refine wpG_take (i := 10) (oi := { dst := some 70, op := Op.indexAddr 62 (Operand.tmp 61) (Operand.tmp 69), type := 0, pos := "ref.go:78", after := #[{ on := 1, ground := Ground.data }, { on := 9, ground := Ground.data }], guard := none }) (v := ?_) rfl (by kernel_rfl) (by kernel_rfl) (by kernel_rfl) (by rfl) ?_ ?_
                  rotate_left
                  · intro W hW; first | (go_simp; done) | (go_simp; with_reducible rfl)
                  try simp only [Act.put, List.setIfInBounds_toArray, List.set_cons_zero, List.set_cons_succ]
                  refine wpG_take (i := 11) (oi := { dst := some 71, op := Op.load 9 (Operand.tmp 70), type := 9, pos := "ref.go:78", after := #[{ on := 10, ground := Ground.data }], guard := none }) (v := ?_) rfl (by kernel_rfl) (by kernel_rfl) (by kernel_rfl) (by rfl) ?_ ?_
                  rotate_left
                  · intro W hW; have hcW := cellT15 hcw hW; first | (go_simp; done) | (go_simp; with_reducible rfl)
                  try simp only [Act.put, List.setIfInBounds_toArray, List.set_cons_zero, List.set_cons_succ]
                  refine wpG_take (i := 12) (oi := { dst := some 72, op := Op.binOp BinOp.add 9 (Operand.tmp 60) (Operand.tmp 71) 9, type := 9, pos := "ref.go:78", after := #[{ on := 0, ground := Ground.data }, { on := 11, ground := Ground.data }], guard := none }) (v := ?_) rfl (by kernel_rfl) (by kernel_rfl) (by kernel_rfl) (by rfl) ?_ ?_
                  rotate_left
                  · intro W hW; have hA4 := HA4.out W; first | (go_simp; done) | (go_simp; with_reducible rfl)
                  try simp only [Act.put, List.setIfInBounds_toArray, List.set_cons_zero, List.set_cons_succ]
                  refine wpG_take (i := 13) (oi := { dst := some 4, op := Op.assign (Operand.tmp 72), type := 9, pos := "ref.go:78", after := #[{ on := 12, ground := Ground.data }, { on := 1, ground := Ground.chain }, { on := 0, ground := Ground.phase }, { on := 1, ground := Ground.phase }, { on := 2, ground := Ground.phase }, { on := 3, ground := Ground.phase }, { on := 4, ground := Ground.phase }, { on := 5, ground := Ground.phase }, { on := 6, ground := Ground.phase }, { on := 7, ground := Ground.phase }, { on := 8, ground := Ground.phase }, { on := 9, ground := Ground.phase }, { on := 10, ground := Ground.phase }, { on := 11, ground := Ground.phase }, { on := 12, ground := Ground.phase }], guard := none }) (v := ?_) rfl (by kernel_rfl) (by kernel_rfl) (by kernel_rfl) (by rfl) ?_ ?_
                  rotate_left
                  · intro W hW; first | (go_simp; done) | (go_simp; with_reducible rfl)
                  try simp only [Act.put, List.setIfInBounds_toArray, List.set_cons_zero, List.set_cons_succ]
                  refine wpG_done (by kernel_rfl) ?_
                  have hbz := stepB hby.drew b8
                  go_wp2
                  go_roundw
                  case rel => exact ⟨j + 1, S4, by omega, by go_num, rfl, HJ2, hbz⟩
                  case measure => simp [intOf] <;> omega
              · have hdj : decide ((j : Int) < (M : Int)) = false := decide_eq_false (by omega)
                have hjI : (M : Int) ≤ (j : Int) := by omega
                obtain ⟨S5, hS5⟩ : ∃ l : List UInt8, l = s ++ [10] := ⟨_, rfl⟩
                have a5 := addT s [10] S5 hS5 (by have := HSl3.out; omega) (by decide)
                have HI2 : Hid (S5 = TA ++ txS p (i + 1)) := by
                  show _ = _
                  rw [hS5, HJ.out, HS2.out, show j = (p.tk i).length by have := HM.out; omega]
                  show _ = TA ++ (txS p i ++ (txD (p.ini i) ++ txR (p.tk i) (p.tk i).length ++ [10]))
                  simp
                have hbz := stepB hbx hby
                clear hS5
                go_wp2
                go_roundw
                case rel => exact ⟨i + 1, S5, by omega, by go_num, rfl, HI2, hbz⟩
                case measure => simp [intOf] <;> omega
        · have hd : decide ((i : Int) < (n : Int)) = false := decide_eq_false (by omega)
          have hiI : (n : Int) ≤ (i : Int) := by omega
          have HO : Hid (txT p = s) := by
            show _ = _
            unfold txT
            rw [if_pos HW.out, HI.out, HTd.out, show i = p.n by have := HN.out; omega]
          have hbz := stepB hbw hbx
          go_wp2
          go_ret
          exact ⟨by rw [HO.out]; rfl, hbz⟩
    · simp only [if_true, Bool.false_eq_true, if_false, Bool.or_false, Bool.false_or, Bool.or_true, Bool.true_or, List.append_nil] at hTA
      obtain ⟨S2h, hS2h⟩ : ∃ l : List UInt8, l = S1 ++ [32, 32, 45, 62, 32, 115, 10] := ⟨_, rfl⟩
      have HS2h : Hid (S2h.length ≤ 42) := by have := HS1.out; show _ ≤ _; rw [hS2h, List.length_append]; simp; omega
      have a2 := addT S1 [32, 32, 45, 62, 32, 115, 10] S2h hS2h (by have := HS1.out; omega) (by decide)
      rw [← hS2h] at hTA
      clear hS2h
      have a3 := addT S2h [32, 32, 46, 46, 46, 10] TA hTA (by have := HS2h.out; omega) (by decide)
      clear hTA
      have HB : Hid (BlkAt w.heap.size 33 ([] ++ ptC p (.slice ai n ci) (.slice al n cl) ++ []) w2 ∧ PtR w2 p (.slice ai n ci) (.slice al n cl)) := ⟨hB0, hR1⟩
      have c4 : w2.cell? ⟨w.heap.size, 4, none⟩ = some (.slice al n cl) := by rw [hB0.cell]; rfl
      clear hB0 hR1
      go_wp2
      go_loopw [4, 5] (fun sv iv wx => ∃ (i : Nat) (s : List UInt8), i ≤ n ∧ iv = .int .i64 (i : Int) ∧ sv = .string ⟨s.toArray⟩ ∧ Hid (s = TA ++ txS p i) ∧ Below w2.heap.size w2 wx) (fun _ iv _ => n - (intOf iv).toNat)
      case atStart => exact ⟨0, TA, by omega, rfl, rfl, (by show _ = _; simp [txS]), Below.refl _ _⟩
      case round =>
        obtain ⟨i, s, hi, rfl, rfl, HI, hbx⟩ := hrel
        clear c0 c1 c2 a1
        have hB2 := HB.out.1.kept hbx
        have hR2 := HB.out.2.kept hbx
        have c4' : wr.cell? ⟨w.heap.size, 4, none⟩ = some (.slice al n cl) := by rw [hB2.cell]; rfl
        have c3 : wr.cell? ⟨w.heap.size, 3, none⟩ = some (.slice ai n ci) := by rw [hB2.cell]; rfl
        by_cases hlt : i < n
        · have hd : decide ((i : Int) < (n : Int)) = true := decide_eq_true (by omega)
          have hiI : (i : Int) < (n : Int) := by omega
          have HMn : Hid (i < p.n) := by show _ < _; rw [← HN.out]; exact hlt
          have HSl : Hid (s.length ≤ 700) := by
            show _ ≤ _
            have h1 := txS_len HS.out i (by have := HMn.out; omega)
            have h2 := HTl.out
            rw [HI.out, List.length_append]
            omega
          obtain ⟨gl, ol, vr, rfl, hcr, hrr⟩ := hR2.row (m := i) HMn.out
          obtain ⟨gi, oi, rfl, hci⟩ := hR2.who (m := i) HMn.out
          obtain ⟨bi, hbi⟩ : ∃ b : Bool, b = p.ini i := ⟨_, rfl⟩
          rw [← hbi] at hci
          obtain ⟨ar, cr, rfl, hr2, hr3, -, -⟩ := id hrr
          unfold maxLen at hr3
          obtain ⟨M, hM⟩ : ∃ M : Nat, M = (p.tk i).length := ⟨_, rfl⟩
          rw [← hM] at hcr hr2
          have HM : Hid (M = (p.tk i).length) := hM
          have hM12 : M ≤ 12 := by rw [hM]; exact HS.out.t i HMn.out
          have HRr : Hid (RdI .i64 wr (.slice ar M cr) (p.tk i)) := by rw [hM]; exact hrr
          obtain ⟨S2, hS2⟩ : ∃ l : List UInt8, l = s ++ txD bi := ⟨_, rfl⟩
          have a2 := addT s (txD bi) S2 hS2 (by have := HSl.out; omega) (by rw [txD_len]; omega)
          have HS2 : Hid (S2 = TA ++ txS p i ++ txD (p.ini i)) := by show _ = _; rw [hS2, HI.out, hbi]
          have HSl2 : Hid (S2.length ≤ 705) := by have := HSl.out; show _ ≤ _; rw [hS2, List.length_append, txD_len]; omega
          have HWd : Hid (∀ j, j < M → 1 ≤ (p.tk i).getD j 0 ∧ (p.tk i).getD j 0 ≤ 10) := by
            show ∀ j, _
            intro j hj
            exact HS.out.x i HMn.out j (by rw [← HM.out]; exact hj)
          clear hS2 hrr hM hbi
          rename World => wv
          cases bi
          all_goals
            unfold txD at a2
            simp only [if_true, Bool.false_eq_true, if_false] at a2
            go_wp2
            go_loopw [4, 6] (fun sv jv wx => ∃ (j : Nat) (s : List UInt8), j ≤ M ∧ jv = .int .i64 (j : Int) ∧ sv = .string ⟨s.toArray⟩ ∧ Hid (s = S2 ++ txR (p.tk i) j) ∧ Below wv.heap.size wv wx) (fun _ jv _ => M - (intOf jv).toNat)
            case atStart => exact ⟨0, S2, by omega, rfl, rfl, (by show _ = _; simp [txR]), Below.refl _ _⟩
            case round =>
              obtain ⟨j, s, hj, rfl, rfl, HJ, hby⟩ := hrel
              clear a2
              have e4 := cellT15 c4' hby
              have er := cellT15 hcr hby
              have HSl3 : Hid (s.length ≤ 800) := by
                show _ ≤ _
                have h1 := txR_len (p.tk i) j
                have h2 := HSl2.out
                rw [HJ.out, List.length_append]
                omega
              by_cases hltj : j < M
              · have hdj : decide ((j : Int) < (M : Int)) = true := decide_eq_true (by omega)
                have hjI : (j : Int) < (M : Int) := by omega
                obtain ⟨gr, or, c', ev, -, hcj, -⟩ := (HRr.out.kept hby).cellAt (i := j) (by rw [← HM.out]; exact hltj)
                simp only [Value.slice.injEq] at ev
                obtain ⟨rfl, -, rfl⟩ := ev
                have hx := HWd.out j hltj
                obtain ⟨x, hxe⟩ : ∃ x : Int, x = (p.tk i).getD j 0 := ⟨_, rfl⟩
                rw [← hxe] at hcj hx
                obtain ⟨q, rfl⟩ : ∃ q : Nat, x = (q : Int) := ⟨x.toNat, by omega⟩
                have hq11 : q < 11 := by omega
                have hqI : (q : Int) < 11 := by omega
                obtain ⟨sep, hsep⟩ : ∃ l : List UInt8, l = if 0 < j then [44, 32] else [] := ⟨_, rfl⟩
                obtain ⟨S3, hS3⟩ : ∃ l : List UInt8, l = s ++ sep := ⟨_, rfl⟩
                have HS3l : Hid (S3.length ≤ 802) := by
                  have := HSl3.out
                  show _ ≤ _
                  rw [hS3, List.length_append, hsep]
                  split <;> simp <;> omega
                obtain ⟨wd, hwd⟩ : ∃ l : List UInt8, l = wdL.getD q [] := ⟨_, rfl⟩
                obtain ⟨S4, hS4⟩ : ∃ l : List UInt8, l = S3 ++ wd := ⟨_, rfl⟩
                have HA4 : Hid (∀ W : World, (Op.stringOp .add ⟨S3.toArray⟩ ⟨wd.toArray⟩).run Tryz.prog W = .ok (.string ⟨S4.toArray⟩) W) := addT S3 wd S4 hS4 (by have := HS3l.out; omega) (by have := wdL_len q; rw [hwd]; omega)
                have HWd2 : Hid (wd = wdL.getD q []) := hwd
                have HJ2 : Hid (S4 = S2 ++ txR (p.tk i) (j + 1)) := by
                  show _ = _
                  rw [hS4, hwd, hS3, hsep, HJ.out]
                  show _ = S2 ++ (txR (p.tk i) j ++ _ ++ wdL.getD ((p.tk i).getD j 0).toNat [])
                  rw [← hxe, Int.toNat_natCast]
                  simp
                have hcase : (j = 0 ∧ S3 = s) ∨ (decide ((0 : Int) < (j : Int)) = true ∧ (0 : Int) < (j : Int) ∧ ∀ W : World, (Op.stringOp .add ⟨s.toArray⟩ ⟨[44, 32].toArray⟩).run Tryz.prog W = .ok (.string ⟨S3.toArray⟩) W) := by
                  by_cases h : j = 0
                  · left
                    refine ⟨h, ?_⟩
                    rw [hS3, hsep, h]
                    simp
                  · right
                    refine ⟨decide_eq_true (by omega), by omega, addT s [44, 32] S3 (by rw [hS3, hsep, if_pos (by omega)]) (by have := HSl3.out; omega) (by decide)⟩
                clear hsep hS3 hS4 hxe hwd
                have HCj : Hid _ := hcj
                have HE4 : Hid _ := e4
                have HEr : Hid _ := er
                rcases hcase with ⟨rfl, rfl⟩ | ⟨g1, g2, g3⟩
                · have HCj : Hid (wr.cell? ⟨gr, or, none⟩ = some (.int .i64 (q : Int))) := HCj.out
                  go_wp2_with fail
                  have hB9 := hB2.kept hby
                  refine wpG_begin (by kernel_rfl) ?_
                  refine wpG_take (i := 0) (oi := { dst := some 60, op := Op.move (Operand.tmp 4), type := 9, pos := "ref.go:78", after := #[], guard := none }) (v := ?_) rfl (by kernel_rfl) (by kernel_rfl) (by kernel_rfl) (by rfl) ?_ ?_
                  rotate_left
                  · intro W hW; first | (go_simp; done) | (go_simp; with_reducible rfl)
                  try simp only [Act.put, List.setIfInBounds_toArray, List.set_cons_zero, List.set_cons_succ]
                  refine wpG_take (i := 2) (oi := { dst := some 62, op := Op.fieldAddr 33 (Operand.tmp 1) 4, type := 0, pos := "ref.go:78", after := #[], guard := none }) (v := ?_) rfl (by kernel_rfl) (by kernel_rfl) (by kernel_rfl) (by rfl) ?_ ?_
                  rotate_left
                  · intro W hW; first | (go_simp; done) | (go_simp; with_reducible rfl)
                  try simp only [Act.put, List.setIfInBounds_toArray, List.set_cons_zero, List.set_cons_succ]
                  refine wpG_take (i := 3) (oi := { dst := some 63, op := Op.load 31 (Operand.tmp 62), type := 31, pos := "ref.go:78", after := #[{ on := 2, ground := Ground.data }], guard := none }) (v := ?_) rfl (by kernel_rfl) (by kernel_rfl) (by kernel_rfl) (by rfl) ?_ ?_
                  rotate_left
                  · intro W hW; have hcW := cellD15 HE4.out hW; first | (go_simp; done) | (go_simp; with_reducible rfl)
                  try simp only [Act.put, List.setIfInBounds_toArray, List.set_cons_zero, List.set_cons_succ]
                  refine wpG_take (i := 4) (oi := { dst := some 64, op := Op.move (Operand.tmp 5), type := 3, pos := "ref.go:78", after := #[], guard := none }) (v := ?_) rfl (by kernel_rfl) (by kernel_rfl) (by kernel_rfl) (by rfl) ?_ ?_
                  rotate_left
                  · intro W hW; first | (go_simp; done) | (go_simp; with_reducible rfl)
                  try simp only [Act.put, List.setIfInBounds_toArray, List.set_cons_zero, List.set_cons_succ]
                  refine wpG_take (i := 5) (oi := { dst := some 65, op := Op.indexAddr 31 (Operand.tmp 63) (Operand.tmp 64), type := 0, pos := "ref.go:78", after := #[{ on := 3, ground := Ground.data }, { on := 4, ground := Ground.data }], guard := none }) (v := ?_) rfl (by kernel_rfl) (by kernel_rfl) (by kernel_rfl) (by rfl) ?_ ?_
                  rotate_left
                  · intro W hW; first | (go_simp; done) | (go_simp; with_reducible rfl)
                  try simp only [Act.put, List.setIfInBounds_toArray, List.set_cons_zero, List.set_cons_succ]
                  refine wpG_take (i := 6) (oi := { dst := some 66, op := Op.load 71 (Operand.tmp 65), type := 71, pos := "ref.go:78", after := #[{ on := 5, ground := Ground.data }], guard := none }) (v := ?_) rfl (by kernel_rfl) (by kernel_rfl) (by kernel_rfl) (by rfl) ?_ ?_
                  rotate_left
                  · intro W hW; have hcW := cellD15 HEr.out hW; first | (go_simp; done) | (go_simp; with_reducible rfl)
                  try simp only [Act.put, List.setIfInBounds_toArray, List.set_cons_zero, List.set_cons_succ]
                  refine wpG_take (i := 7) (oi := { dst := some 67, op := Op.move (Operand.tmp 6), type := 3, pos := "ref.go:78", after := #[], guard := none }) (v := ?_) rfl (by kernel_rfl) (by kernel_rfl) (by kernel_rfl) (by rfl) ?_ ?_
                  rotate_left
                  · intro W hW; first | (go_simp; done) | (go_simp; with_reducible rfl)
                  try simp only [Act.put, List.setIfInBounds_toArray, List.set_cons_zero, List.set_cons_succ]
                  refine wpG_take (i := 8) (oi := { dst := some 68, op := Op.indexAddr 71 (Operand.tmp 66) (Operand.tmp 67), type := 0, pos := "ref.go:78", after := #[{ on := 6, ground := Ground.data }, { on := 7, ground := Ground.data }], guard := none }) (v := ?_) rfl (by kernel_rfl) (by kernel_rfl) (by kernel_rfl) (by rfl) ?_ ?_
                  rotate_left
                  · intro W hW; first | (go_simp; done) | (go_simp; with_reducible rfl)
                  try simp only [Act.put, List.setIfInBounds_toArray, List.set_cons_zero, List.set_cons_succ]
                  refine wpG_take (i := 9) (oi := { dst := some 69, op := Op.load 3 (Operand.tmp 68), type := 3, pos := "ref.go:78", after := #[{ on := 8, ground := Ground.data }], guard := none }) (v := ?_) rfl (by kernel_rfl) (by kernel_rfl) (by kernel_rfl) (by rfl) ?_ ?_
                  rotate_left
                  · intro W hW; have hcW := cellD15 HCj.out hW; first | (go_simp; done) | (go_simp; with_reducible rfl)
                  try simp only [Act.put, List.setIfInBounds_toArray, List.set_cons_zero, List.set_cons_succ]
                  refine wpG_do (i := 1) (o := { dst := some 61, op := Op.call { callee := Callee.value (Operand.func 39), args := #[], argTypes := #[] }, type := 62, pos := "ref.go:78", after := #[], guard := none }) (by kernel_rfl) rfl (by rfl) fun K hK => ?_
                  go_simp
                  refine (words15_any _).mono ?_
                  rintro e w8 ⟨vw, rfl, hrw, b8⟩
                  obtain ⟨gw, ow, cw, rfl, hw1, hw2, hcw⟩ := hrw.cellAt (i := q) hq11
                  have hsw : (stC wdL)[q]'hq11 = Value.string ⟨(wdL.getD q []).toArray⟩ := by
                    have : q < wdL.length := hq11
                    simp [stC, this]
                  rw [hsw, ← HWd2.out] at hcw
                  clear hsw
                  rw [show (stC wdL).length = 11 from rfl] at hw1 ⊢
                  unfold maxLen at hw2
                  refine hK.out _ _ b8 ?_
                  clear hK K
                  try simp only [Act.put, List.setIfInBounds_toArray, List.set_cons_zero, List.set_cons_succ]
                  refine wpG_take (i := 10) (oi := { dst := some 70, op := Op.indexAddr 62 (Operand.tmp 61) (Operand.tmp 69), type := 0, pos := "ref.go:78", after := #[{ on := 1, ground := Ground.data }, { on := 9, ground := Ground.data }], guard := none }) (v := ?_) rfl (by kernel_rfl) (by kernel_rfl) (by kernel_rfl) (by rfl) ?_ ?_
                  rotate_left
                  · intro W hW; first | (go_simp; done) | (go_simp; with_reducible rfl)
                  try simp only [Act.put, List.setIfInBounds_toArray, List.set_cons_zero, List.set_cons_succ]
                  refine wpG_take (i := 11) (oi := { dst := some 71, op := Op.load 9 (Operand.tmp 70), type := 9, pos := "ref.go:78", after := #[{ on := 10, ground := Ground.data }], guard := none }) (v := ?_) rfl (by kernel_rfl) (by kernel_rfl) (by kernel_rfl) (by rfl) ?_ ?_
                  rotate_left
                  · intro W hW; have hcW := cellT15 hcw hW; first | (go_simp; done) | (go_simp; with_reducible rfl)
                  try simp only [Act.put, List.setIfInBounds_toArray, List.set_cons_zero, List.set_cons_succ]
                  refine wpG_take (i := 12) (oi := { dst := some 72, op := Op.binOp BinOp.add 9 (Operand.tmp 60) (Operand.tmp 71) 9, type := 9, pos := "ref.go:78", after := #[{ on := 0, ground := Ground.data }, { on := 11, ground := Ground.data }], guard := none }) (v := ?_) rfl (by kernel_rfl) (by kernel_rfl) (by kernel_rfl) (by rfl) ?_ ?_
                  rotate_left
                  · intro W hW; have hA4 := HA4.out W; first | (go_simp; done) | (go_simp; with_reducible rfl)
                  try simp only [Act.put, List.setIfInBounds_toArray, List.set_cons_zero, List.set_cons_succ]
                  refine wpG_take (i := 13) (oi := { dst := some 4, op := Op.assign (Operand.tmp 72), type := 9, pos := "ref.go:78", after := #[{ on := 12, ground := Ground.data }, { on := 1, ground := Ground.chain }, { on := 0, ground := Ground.phase }, { on := 1, ground := Ground.phase }, { on := 2, ground := Ground.phase }, { on := 3, ground := Ground.phase }, { on := 4, ground := Ground.phase }, { on := 5, ground := Ground.phase }, { on := 6, ground := Ground.phase }, { on := 7, ground := Ground.phase }, { on := 8, ground := Ground.phase }, { on := 9, ground := Ground.phase }, { on := 10, ground := Ground.phase }, { on := 11, ground := Ground.phase }, { on := 12, ground := Ground.phase }], guard := none }) (v := ?_) rfl (by kernel_rfl) (by kernel_rfl) (by kernel_rfl) (by rfl) ?_ ?_
                  rotate_left
                  · intro W hW; first | (go_simp; done) | (go_simp; with_reducible rfl)
                  try simp only [Act.put, List.setIfInBounds_toArray, List.set_cons_zero, List.set_cons_succ]
                  refine wpG_done (by kernel_rfl) ?_
                  have hbz := stepB hby.drew b8
                  go_wp2
                  go_roundw
                  case rel => exact ⟨1, S4, by omega, by go_num, rfl, HJ2, hbz⟩
                  case measure => simp [intOf] <;> omega
                · go_wp2_with fail
                  have hB9 := hB2.kept hby
                  refine wpG_begin (by kernel_rfl) ?_
                  refine wpG_take (i := 0) (oi := { dst := some 60, op := Op.move (Operand.tmp 4), type := 9, pos := "ref.go:78", after := #[], guard := none }) (v := ?_) rfl (by kernel_rfl) (by kernel_rfl) (by kernel_rfl) (by rfl) ?_ ?_
                  rotate_left
                  · intro W hW; first | (go_simp; done) | (go_simp; with_reducible rfl)
                  try simp only [Act.put, List.setIfInBounds_toArray, List.set_cons_zero, List.set_cons_succ]
                  refine wpG_take (i := 2) (oi := { dst := some 62, op := Op.fieldAddr 33 (Operand.tmp 1) 4, type := 0, pos := "ref.go:78", after := #[], guard := none }) (v := ?_) rfl (by kernel_rfl) (by kernel_rfl) (by kernel_rfl) (by rfl) ?_ ?_
                  rotate_left
                  · intro W hW; first | (go_simp; done) | (go_simp; with_reducible rfl)
                  try simp only [Act.put, List.setIfInBounds_toArray, List.set_cons_zero, List.set_cons_succ]
                  refine wpG_take (i := 3) (oi := { dst := some 63, op := Op.load 31 (Operand.tmp 62), type := 31, pos := "ref.go:78", after := #[{ on := 2, ground := Ground.data }], guard := none }) (v := ?_) rfl (by kernel_rfl) (by kernel_rfl) (by kernel_rfl) (by rfl) ?_ ?_
                  rotate_left
                  · intro W hW; have hcW := cellD15 HE4.out hW; first | (go_simp; done) | (go_simp; with_reducible rfl)
                  try simp only [Act.put, List.setIfInBounds_toArray, List.set_cons_zero, List.set_cons_succ]
                  refine wpG_take (i := 4) (oi := { dst := some 64, op := Op.move (Operand.tmp 5), type := 3, pos := "ref.go:78", after := #[], guard := none }) (v := ?_) rfl (by kernel_rfl) (by kernel_rfl) (by kernel_rfl) (by rfl) ?_ ?_
                  rotate_left
                  · intro W hW; first | (go_simp; done) | (go_simp; with_reducible rfl)
                  try simp only [Act.put, List.setIfInBounds_toArray, List.set_cons_zero, List.set_cons_succ]
                  refine wpG_take (i := 5) (oi := { dst := some 65, op := Op.indexAddr 31 (Operand.tmp 63) (Operand.tmp 64), type := 0, pos := "ref.go:78", after := #[{ on := 3, ground := Ground.data }, { on := 4, ground := Ground.data }], guard := none }) (v := ?_) rfl (by kernel_rfl) (by kernel_rfl) (by kernel_rfl) (by rfl) ?_ ?_
                  rotate_left
                  · intro W hW; first | (go_simp; done) | (go_simp; with_reducible rfl)
                  try simp only [Act.put, List.setIfInBounds_toArray, List.set_cons_zero, List.set_cons_succ]
                  refine wpG_take (i := 6) (oi := { dst := some 66, op := Op.load 71 (Operand.tmp 65), type := 71, pos := "ref.go:78", after := #[{ on := 5, ground := Ground.data }], guard := none }) (v := ?_) rfl (by kernel_rfl) (by kernel_rfl) (by kernel_rfl) (by rfl) ?_ ?_
                  rotate_left
                  · intro W hW; have hcW := cellD15 HEr.out hW; first | (go_simp; done) | (go_simp; with_reducible rfl)
                  try simp only [Act.put, List.setIfInBounds_toArray, List.set_cons_zero, List.set_cons_succ]
                  refine wpG_take (i := 7) (oi := { dst := some 67, op := Op.move (Operand.tmp 6), type := 3, pos := "ref.go:78", after := #[], guard := none }) (v := ?_) rfl (by kernel_rfl) (by kernel_rfl) (by kernel_rfl) (by rfl) ?_ ?_
                  rotate_left
                  · intro W hW; first | (go_simp; done) | (go_simp; with_reducible rfl)
                  try simp only [Act.put, List.setIfInBounds_toArray, List.set_cons_zero, List.set_cons_succ]
                  refine wpG_take (i := 8) (oi := { dst := some 68, op := Op.indexAddr 71 (Operand.tmp 66) (Operand.tmp 67), type := 0, pos := "ref.go:78", after := #[{ on := 6, ground := Ground.data }, { on := 7, ground := Ground.data }], guard := none }) (v := ?_) rfl (by kernel_rfl) (by kernel_rfl) (by kernel_rfl) (by rfl) ?_ ?_
                  rotate_left
                  · intro W hW; first | (go_simp; done) | (go_simp; with_reducible rfl)
                  try simp only [Act.put, List.setIfInBounds_toArray, List.set_cons_zero, List.set_cons_succ]
                  refine wpG_take (i := 9) (oi := { dst := some 69, op := Op.load 3 (Operand.tmp 68), type := 3, pos := "ref.go:78", after := #[{ on := 8, ground := Ground.data }], guard := none }) (v := ?_) rfl (by kernel_rfl) (by kernel_rfl) (by kernel_rfl) (by rfl) ?_ ?_
                  rotate_left
                  · intro W hW; have hcW := cellD15 HCj.out hW; first | (go_simp; done) | (go_simp; with_reducible rfl)
                  try simp only [Act.put, List.setIfInBounds_toArray, List.set_cons_zero, List.set_cons_succ]
                  refine wpG_do (i := 1) (o := { dst := some 61, op := Op.call { callee := Callee.value (Operand.func 39), args := #[], argTypes := #[] }, type := 62, pos := "ref.go:78", after := #[], guard := none }) (by kernel_rfl) rfl (by rfl) fun K hK => ?_
                  go_simp
                  refine (words15_any _).mono ?_
                  rintro e w8 ⟨vw, rfl, hrw, b8⟩
                  obtain ⟨gw, ow, cw, rfl, hw1, hw2, hcw⟩ := hrw.cellAt (i := q) hq11
                  have hsw : (stC wdL)[q]'hq11 = Value.string ⟨(wdL.getD q []).toArray⟩ := by
                    have : q < wdL.length := hq11
                    simp [stC, this]
                  rw [hsw, ← HWd2.out] at hcw
                  clear hsw
                  rw [show (stC wdL).length = 11 from rfl] at hw1 ⊢
                  unfold maxLen at hw2
                  refine hK.out _ _ b8 ?_
                  clear hK K
                  try simp only [Act.put, List.setIfInBounds_toArray, List.set_cons_zero, List.set_cons_succ]
                  refine wpG_take (i := 10) (oi := { dst := some 70, op := Op.indexAddr 62 (Operand.tmp 61) (Operand.tmp 69), type := 0, pos := "ref.go:78", after := #[{ on := 1, ground := Ground.data }, { on := 9, ground := Ground.data }], guard := none }) (v := ?_) rfl (by kernel_rfl) (by kernel_rfl) (by kernel_rfl) (by rfl) ?_ ?_
                  rotate_left
                  · intro W hW; first | (go_simp; done) | (go_simp; with_reducible rfl)
                  try simp only [Act.put, List.setIfInBounds_toArray, List.set_cons_zero, List.set_cons_succ]
                  refine wpG_take (i := 11) (oi := { dst := some 71, op := Op.load 9 (Operand.tmp 70), type := 9, pos := "ref.go:78", after := #[{ on := 10, ground := Ground.data }], guard := none }) (v := ?_) rfl (by kernel_rfl) (by kernel_rfl) (by kernel_rfl) (by rfl) ?_ ?_
                  rotate_left
                  · intro W hW; have hcW := cellT15 hcw hW; first | (go_simp; done) | (go_simp; with_reducible rfl)
                  try simp only [Act.put, List.setIfInBounds_toArray, List.set_cons_zero, List.set_cons_succ]
                  refine wpG_take (i := 12) (oi := { dst := some 72, op := Op.binOp BinOp.add 9 (Operand.tmp 60) (Operand.tmp 71) 9, type := 9, pos := "ref.go:78", after := #[{ on := 0, ground := Ground.data }, { on := 11, ground := Ground.data }], guard := none }) (v := ?_) rfl (by kernel_rfl) (by kernel_rfl) (by kernel_rfl) (by rfl) ?_ ?_
                  rotate_left
                  · intro W hW; have hA4 := HA4.out W; first | (go_simp; done) | (go_simp; with_reducible rfl)
                  try simp only [Act.put, List.setIfInBounds_toArray, List.set_cons_zero, List.set_cons_succ]
                  refine wpG_take (i := 13) (oi := { dst := some 4, op := Op.assign (Operand.tmp 72), type := 9, pos := "ref.go:78", after := #[{ on := 12, ground := Ground.data }, { on := 1, ground := Ground.chain }, { on := 0, ground := Ground.phase }, { on := 1, ground := Ground.phase }, { on := 2, ground := Ground.phase }, { on := 3, ground := Ground.phase }, { on := 4, ground := Ground.phase }, { on := 5, ground := Ground.phase }, { on := 6, ground := Ground.phase }, { on := 7, ground := Ground.phase }, { on := 8, ground := Ground.phase }, { on := 9, ground := Ground.phase }, { on := 10, ground := Ground.phase }, { on := 11, ground := Ground.phase }, { on := 12, ground := Ground.phase }], guard := none }) (v := ?_) rfl (by kernel_rfl) (by kernel_rfl) (by kernel_rfl) (by rfl) ?_ ?_
                  rotate_left
                  · intro W hW; first | (go_simp; done) | (go_simp; with_reducible rfl)
                  try simp only [Act.put, List.setIfInBounds_toArray, List.set_cons_zero, List.set_cons_succ]
                  refine wpG_done (by kernel_rfl) ?_
                  have hbz := stepB hby.drew b8
                  go_wp2
                  go_roundw
                  case rel => exact ⟨j + 1, S4, by omega, by go_num, rfl, HJ2, hbz⟩
                  case measure => simp [intOf] <;> omega
              · have hdj : decide ((j : Int) < (M : Int)) = false := decide_eq_false (by omega)
                have hjI : (M : Int) ≤ (j : Int) := by omega
                obtain ⟨S5, hS5⟩ : ∃ l : List UInt8, l = s ++ [10] := ⟨_, rfl⟩
                have a5 := addT s [10] S5 hS5 (by have := HSl3.out; omega) (by decide)
                have HI2 : Hid (S5 = TA ++ txS p (i + 1)) := by
                  show _ = _
                  rw [hS5, HJ.out, HS2.out, show j = (p.tk i).length by have := HM.out; omega]
                  show _ = TA ++ (txS p i ++ (txD (p.ini i) ++ txR (p.tk i) (p.tk i).length ++ [10]))
                  simp
                have hbz := stepB hbx hby
                clear hS5
                go_wp2
                go_roundw
                case rel => exact ⟨i + 1, S5, by omega, by go_num, rfl, HI2, hbz⟩
                case measure => simp [intOf] <;> omega
        · have hd : decide ((i : Int) < (n : Int)) = false := decide_eq_false (by omega)
          have hiI : (n : Int) ≤ (i : Int) := by omega
          have HO : Hid (txT p = s) := by
            show _ = _
            unfold txT
            rw [if_pos HW.out, HI.out, HTd.out, show i = p.n by have := HN.out; omega]
          have hbz := stepB hbw hbx
          go_wp2
          go_ret
          exact ⟨by rw [HO.out]; rfl, hbz⟩
    · simp only [if_true, Bool.false_eq_true, if_false, Bool.or_false, Bool.false_or, Bool.or_true, Bool.true_or, List.append_nil] at hTA
      obtain ⟨S2h, hS2h⟩ : ∃ l : List UInt8, l = S1 ++ [32, 32, 45, 62, 32, 115, 10] := ⟨_, rfl⟩
      have HS2h : Hid (S2h.length ≤ 42) := by have := HS1.out; show _ ≤ _; rw [hS2h, List.length_append]; simp; omega
      have a2 := addT S1 [32, 32, 45, 62, 32, 115, 10] S2h hS2h (by have := HS1.out; omega) (by decide)
      rw [← hS2h] at hTA
      clear hS2h
      obtain ⟨S3h, hS3h⟩ : ∃ l : List UInt8, l = S2h ++ [32, 32, 60, 45, 32, 115, 10] := ⟨_, rfl⟩
      have HS3h : Hid (S3h.length ≤ 50) := by have := HS2h.out; show _ ≤ _; rw [hS3h, List.length_append]; simp; omega
      have a3 := addT S2h [32, 32, 60, 45, 32, 115, 10] S3h hS3h (by have := HS2h.out; omega) (by decide)
      rw [← hS3h] at hTA
      clear hS3h
      have a4 := addT S3h [32, 32, 46, 46, 46, 10] TA hTA (by have := HS3h.out; omega) (by decide)
      clear hTA
      have HB : Hid (BlkAt w.heap.size 33 ([] ++ ptC p (.slice ai n ci) (.slice al n cl) ++ []) w2 ∧ PtR w2 p (.slice ai n ci) (.slice al n cl)) := ⟨hB0, hR1⟩
      have c4 : w2.cell? ⟨w.heap.size, 4, none⟩ = some (.slice al n cl) := by rw [hB0.cell]; rfl
      clear hB0 hR1
      go_wp2
      go_loopw [4, 5] (fun sv iv wx => ∃ (i : Nat) (s : List UInt8), i ≤ n ∧ iv = .int .i64 (i : Int) ∧ sv = .string ⟨s.toArray⟩ ∧ Hid (s = TA ++ txS p i) ∧ Below w2.heap.size w2 wx) (fun _ iv _ => n - (intOf iv).toNat)
      case atStart => exact ⟨0, TA, by omega, rfl, rfl, (by show _ = _; simp [txS]), Below.refl _ _⟩
      case round =>
        obtain ⟨i, s, hi, rfl, rfl, HI, hbx⟩ := hrel
        clear c0 c1 c2 a1
        have hB2 := HB.out.1.kept hbx
        have hR2 := HB.out.2.kept hbx
        have c4' : wr.cell? ⟨w.heap.size, 4, none⟩ = some (.slice al n cl) := by rw [hB2.cell]; rfl
        have c3 : wr.cell? ⟨w.heap.size, 3, none⟩ = some (.slice ai n ci) := by rw [hB2.cell]; rfl
        by_cases hlt : i < n
        · have hd : decide ((i : Int) < (n : Int)) = true := decide_eq_true (by omega)
          have hiI : (i : Int) < (n : Int) := by omega
          have HMn : Hid (i < p.n) := by show _ < _; rw [← HN.out]; exact hlt
          have HSl : Hid (s.length ≤ 700) := by
            show _ ≤ _
            have h1 := txS_len HS.out i (by have := HMn.out; omega)
            have h2 := HTl.out
            rw [HI.out, List.length_append]
            omega
          obtain ⟨gl, ol, vr, rfl, hcr, hrr⟩ := hR2.row (m := i) HMn.out
          obtain ⟨gi, oi, rfl, hci⟩ := hR2.who (m := i) HMn.out
          obtain ⟨bi, hbi⟩ : ∃ b : Bool, b = p.ini i := ⟨_, rfl⟩
          rw [← hbi] at hci
          obtain ⟨ar, cr, rfl, hr2, hr3, -, -⟩ := id hrr
          unfold maxLen at hr3
          obtain ⟨M, hM⟩ : ∃ M : Nat, M = (p.tk i).length := ⟨_, rfl⟩
          rw [← hM] at hcr hr2
          have HM : Hid (M = (p.tk i).length) := hM
          have hM12 : M ≤ 12 := by rw [hM]; exact HS.out.t i HMn.out
          have HRr : Hid (RdI .i64 wr (.slice ar M cr) (p.tk i)) := by rw [hM]; exact hrr
          obtain ⟨S2, hS2⟩ : ∃ l : List UInt8, l = s ++ txD bi := ⟨_, rfl⟩
          have a2 := addT s (txD bi) S2 hS2 (by have := HSl.out; omega) (by rw [txD_len]; omega)
          have HS2 : Hid (S2 = TA ++ txS p i ++ txD (p.ini i)) := by show _ = _; rw [hS2, HI.out, hbi]
          have HSl2 : Hid (S2.length ≤ 705) := by have := HSl.out; show _ ≤ _; rw [hS2, List.length_append, txD_len]; omega
          have HWd : Hid (∀ j, j < M → 1 ≤ (p.tk i).getD j 0 ∧ (p.tk i).getD j 0 ≤ 10) := by
            show ∀ j, _
            intro j hj
            exact HS.out.x i HMn.out j (by rw [← HM.out]; exact hj)
          clear hS2 hrr hM hbi
          rename World => wv
          cases bi
          all_goals
            unfold txD at a2
            simp only [if_true, Bool.false_eq_true, if_false] at a2
            go_wp2
            go_loopw [4, 6] (fun sv jv wx => ∃ (j : Nat) (s : List UInt8), j ≤ M ∧ jv = .int .i64 (j : Int) ∧ sv = .string ⟨s.toArray⟩ ∧ Hid (s = S2 ++ txR (p.tk i) j) ∧ Below wv.heap.size wv wx) (fun _ jv _ => M - (intOf jv).toNat)
            case atStart => exact ⟨0, S2, by omega, rfl, rfl, (by show _ = _; simp [txR]), Below.refl _ _⟩
            case round =>
              obtain ⟨j, s, hj, rfl, rfl, HJ, hby⟩ := hrel
              clear a2
              have e4 := cellT15 c4' hby
              have er := cellT15 hcr hby
              have HSl3 : Hid (s.length ≤ 800) := by
                show _ ≤ _
                have h1 := txR_len (p.tk i) j
                have h2 := HSl2.out
                rw [HJ.out, List.length_append]
                omega
              by_cases hltj : j < M
              · have hdj : decide ((j : Int) < (M : Int)) = true := decide_eq_true (by omega)
                have hjI : (j : Int) < (M : Int) := by omega
                obtain ⟨gr, or, c', ev, -, hcj, -⟩ := (HRr.out.kept hby).cellAt (i := j) (by rw [← HM.out]; exact hltj)
                simp only [Value.slice.injEq] at ev
                obtain ⟨rfl, -, rfl⟩ := ev
                have hx := HWd.out j hltj
                obtain ⟨x, hxe⟩ : ∃ x : Int, x = (p.tk i).getD j 0 := ⟨_, rfl⟩
                rw [← hxe] at hcj hx
                obtain ⟨q, rfl⟩ : ∃ q : Nat, x = (q : Int) := ⟨x.toNat, by omega⟩
                have hq11 : q < 11 := by omega
                have hqI : (q : Int) < 11 := by omega
                obtain ⟨sep, hsep⟩ : ∃ l : List UInt8, l = if 0 < j then [44, 32] else [] := ⟨_, rfl⟩
                obtain ⟨S3, hS3⟩ : ∃ l : List UInt8, l = s ++ sep := ⟨_, rfl⟩
                have HS3l : Hid (S3.length ≤ 802) := by
                  have := HSl3.out
                  show _ ≤ _
                  rw [hS3, List.length_append, hsep]
                  split <;> simp <;> omega
                obtain ⟨wd, hwd⟩ : ∃ l : List UInt8, l = wdL.getD q [] := ⟨_, rfl⟩
                obtain ⟨S4, hS4⟩ : ∃ l : List UInt8, l = S3 ++ wd := ⟨_, rfl⟩
                have HA4 : Hid (∀ W : World, (Op.stringOp .add ⟨S3.toArray⟩ ⟨wd.toArray⟩).run Tryz.prog W = .ok (.string ⟨S4.toArray⟩) W) := addT S3 wd S4 hS4 (by have := HS3l.out; omega) (by have := wdL_len q; rw [hwd]; omega)
                have HWd2 : Hid (wd = wdL.getD q []) := hwd
                have HJ2 : Hid (S4 = S2 ++ txR (p.tk i) (j + 1)) := by
                  show _ = _
                  rw [hS4, hwd, hS3, hsep, HJ.out]
                  show _ = S2 ++ (txR (p.tk i) j ++ _ ++ wdL.getD ((p.tk i).getD j 0).toNat [])
                  rw [← hxe, Int.toNat_natCast]
                  simp
                have hcase : (j = 0 ∧ S3 = s) ∨ (decide ((0 : Int) < (j : Int)) = true ∧ (0 : Int) < (j : Int) ∧ ∀ W : World, (Op.stringOp .add ⟨s.toArray⟩ ⟨[44, 32].toArray⟩).run Tryz.prog W = .ok (.string ⟨S3.toArray⟩) W) := by
                  by_cases h : j = 0
                  · left
                    refine ⟨h, ?_⟩
                    rw [hS3, hsep, h]
                    simp
                  · right
                    refine ⟨decide_eq_true (by omega), by omega, addT s [44, 32] S3 (by rw [hS3, hsep, if_pos (by omega)]) (by have := HSl3.out; omega) (by decide)⟩
                clear hsep hS3 hS4 hxe hwd
                have HCj : Hid _ := hcj
                have HE4 : Hid _ := e4
                have HEr : Hid _ := er
                rcases hcase with ⟨rfl, rfl⟩ | ⟨g1, g2, g3⟩
                · have HCj : Hid (wr.cell? ⟨gr, or, none⟩ = some (.int .i64 (q : Int))) := HCj.out
                  go_wp2_with fail
                  have hB9 := hB2.kept hby
                  refine wpG_begin (by kernel_rfl) ?_
                  refine wpG_take (i := 0) (oi := { dst := some 60, op := Op.move (Operand.tmp 4), type := 9, pos := "ref.go:78", after := #[], guard := none }) (v := ?_) rfl (by kernel_rfl) (by kernel_rfl) (by kernel_rfl) (by rfl) ?_ ?_
                  rotate_left
                  · intro W hW; first | (go_simp; done) | (go_simp; with_reducible rfl)
                  try simp only [Act.put, List.setIfInBounds_toArray, List.set_cons_zero, List.set_cons_succ]
                  refine wpG_take (i := 2) (oi := { dst := some 62, op := Op.fieldAddr 33 (Operand.tmp 1) 4, type := 0, pos := "ref.go:78", after := #[], guard := none }) (v := ?_) rfl (by kernel_rfl) (by kernel_rfl) (by kernel_rfl) (by rfl) ?_ ?_
                  rotate_left
                  · intro W hW; first | (go_simp; done) | (go_simp; with_reducible rfl)
                  try simp only [Act.put, List.setIfInBounds_toArray, List.set_cons_zero, List.set_cons_succ]
                  refine wpG_take (i := 3) (oi := { dst := some 63, op := Op.load 31 (Operand.tmp 62), type := 31, pos := "ref.go:78", after := #[{ on := 2, ground := Ground.data }], guard := none }) (v := ?_) rfl (by kernel_rfl) (by kernel_rfl) (by kernel_rfl) (by rfl) ?_ ?_
                  rotate_left
                  · intro W hW; have hcW := cellD15 HE4.out hW; first | (go_simp; done) | (go_simp; with_reducible rfl)
                  try simp only [Act.put, List.setIfInBounds_toArray, List.set_cons_zero, List.set_cons_succ]
                  refine wpG_take (i := 4) (oi := { dst := some 64, op := Op.move (Operand.tmp 5), type := 3, pos := "ref.go:78", after := #[], guard := none }) (v := ?_) rfl (by kernel_rfl) (by kernel_rfl) (by kernel_rfl) (by rfl) ?_ ?_
                  rotate_left
                  · intro W hW; first | (go_simp; done) | (go_simp; with_reducible rfl)
                  try simp only [Act.put, List.setIfInBounds_toArray, List.set_cons_zero, List.set_cons_succ]
                  refine wpG_take (i := 5) (oi := { dst := some 65, op := Op.indexAddr 31 (Operand.tmp 63) (Operand.tmp 64), type := 0, pos := "ref.go:78", after := #[{ on := 3, ground := Ground.data }, { on := 4, ground := Ground.data }], guard := none }) (v := ?_) rfl (by kernel_rfl) (by kernel_rfl) (by kernel_rfl) (by rfl) ?_ ?_
                  rotate_left
                  · intro W hW; first | (go_simp; done) | (go_simp; with_reducible rfl)
                  try simp only [Act.put, List.setIfInBounds_toArray, List.set_cons_zero, List.set_cons_succ]
                  refine wpG_take (i := 6) (oi := { dst := some 66, op := Op.load 71 (Operand.tmp 65), type := 71, pos := "ref.go:78", after := #[{ on := 5, ground := Ground.data }], guard := none }) (v := ?_) rfl (by kernel_rfl) (by kernel_rfl) (by kernel_rfl) (by rfl) ?_ ?_
                  rotate_left
                  · intro W hW; have hcW := cellD15 HEr.out hW; first | (go_simp; done) | (go_simp; with_reducible rfl)
                  try simp only [Act.put, List.setIfInBounds_toArray, List.set_cons_zero, List.set_cons_succ]
                  refine wpG_take (i := 7) (oi := { dst := some 67, op := Op.move (Operand.tmp 6), type := 3, pos := "ref.go:78", after := #[], guard := none }) (v := ?_) rfl (by kernel_rfl) (by kernel_rfl) (by kernel_rfl) (by rfl) ?_ ?_
                  rotate_left
                  · intro W hW; first | (go_simp; done) | (go_simp; with_reducible rfl)
                  try simp only [Act.put, List.setIfInBounds_toArray, List.set_cons_zero, List.set_cons_succ]
                  refine wpG_take (i := 8) (oi := { dst := some 68, op := Op.indexAddr 71 (Operand.tmp 66) (Operand.tmp 67), type := 0, pos := "ref.go:78", after := #[{ on := 6, ground := Ground.data }, { on := 7, ground := Ground.data }], guard := none }) (v := ?_) rfl (by kernel_rfl) (by kernel_rfl) (by kernel_rfl) (by rfl) ?_ ?_
                  rotate_left
                  · intro W hW; first | (go_simp; done) | (go_simp; with_reducible rfl)
                  try simp only [Act.put, List.setIfInBounds_toArray, List.set_cons_zero, List.set_cons_succ]
                  refine wpG_take (i := 9) (oi := { dst := some 69, op := Op.load 3 (Operand.tmp 68), type := 3, pos := "ref.go:78", after := #[{ on := 8, ground := Ground.data }], guard := none }) (v := ?_) rfl (by kernel_rfl) (by kernel_rfl) (by kernel_rfl) (by rfl) ?_ ?_
                  rotate_left
                  · intro W hW; have hcW := cellD15 HCj.out hW; first | (go_simp; done) | (go_simp; with_reducible rfl)
                  try simp only [Act.put, List.setIfInBounds_toArray, List.set_cons_zero, List.set_cons_succ]
                  refine wpG_do (i := 1) (o := { dst := some 61, op := Op.call { callee := Callee.value (Operand.func 39), args := #[], argTypes := #[] }, type := 62, pos := "ref.go:78", after := #[], guard := none }) (by kernel_rfl) rfl (by rfl) fun K hK => ?_
                  go_simp
                  refine (words15_any _).mono ?_
                  rintro e w8 ⟨vw, rfl, hrw, b8⟩
                  obtain ⟨gw, ow, cw, rfl, hw1, hw2, hcw⟩ := hrw.cellAt (i := q) hq11
                  have hsw : (stC wdL)[q]'hq11 = Value.string ⟨(wdL.getD q []).toArray⟩ := by
                    have : q < wdL.length := hq11
                    simp [stC, this]
                  rw [hsw, ← HWd2.out] at hcw
                  clear hsw
                  rw [show (stC wdL).length = 11 from rfl] at hw1 ⊢
                  unfold maxLen at hw2
                  refine hK.out _ _ b8 ?_
                  clear hK K
                  try simp only [Act.put, List.setIfInBounds_toArray, List.set_cons_zero, List.set_cons_succ]
                  refine wpG_take (i := 10) (oi := { dst := some 70, op := Op.indexAddr 62 (Operand.tmp 61) (Operand.tmp 69), type := 0, pos := "ref.go:78", after := #[{ on := 1, ground := Ground.data }, { on := 9, ground := Ground.data }], guard := none }) (v := ?_) rfl (by kernel_rfl) (by kernel_rfl) (by kernel_rfl) (by rfl) ?_ ?_
                  rotate_left
                  · intro W hW; first | (go_simp; done) | (go_simp; with_reducible rfl)
                  try simp only [Act.put, List.setIfInBounds_toArray, List.set_cons_zero, List.set_cons_succ]
                  refine wpG_take (i := 11) (oi := { dst := some 71, op := Op.load 9 (Operand.tmp 70), type := 9, pos := "ref.go:78", after := #[{ on := 10, ground := Ground.data }], guard := none }) (v := ?_) rfl (by kernel_rfl) (by kernel_rfl) (by kernel_rfl) (by rfl) ?_ ?_
                  rotate_left
                  · intro W hW; have hcW := cellT15 hcw hW; first | (go_simp; done) | (go_simp; with_reducible rfl)
                  try simp only [Act.put, List.setIfInBounds_toArray, List.set_cons_zero, List.set_cons_succ]
                  refine wpG_take (i := 12) (oi := { dst := some 72, op := Op.binOp BinOp.add 9 (Operand.tmp 60) (Operand.tmp 71) 9, type := 9, pos := "ref.go:78", after := #[{ on := 0, ground := Ground.data }, { on := 11, ground := Ground.data }], guard := none }) (v := ?_) rfl (by kernel_rfl) (by kernel_rfl) (by kernel_rfl) (by rfl) ?_ ?_
                  rotate_left
                  · intro W hW; have hA4 := HA4.out W; first | (go_simp; done) | (go_simp; with_reducible rfl)
                  try simp only [Act.put, List.setIfInBounds_toArray, List.set_cons_zero, List.set_cons_succ]
                  refine wpG_take (i := 13) (oi := { dst := some 4, op := Op.assign (Operand.tmp 72), type := 9, pos := "ref.go:78", after := #[{ on := 12, ground := Ground.data }, { on := 1, ground := Ground.chain }, { on := 0, ground := Ground.phase }, { on := 1, ground := Ground.phase }, { on := 2, ground := Ground.phase }, { on := 3, ground := Ground.phase }, { on := 4, ground := Ground.phase }, { on := 5, ground := Ground.phase }, { on := 6, ground := Ground.phase }, { on := 7, ground := Ground.phase }, { on := 8, ground := Ground.phase }, { on := 9, ground := Ground.phase }, { on := 10, ground := Ground.phase }, { on := 11, ground := Ground.phase }, { on := 12, ground := Ground.phase }], guard := none }) (v := ?_) rfl (by kernel_rfl) (by kernel_rfl) (by kernel_rfl) (by rfl) ?_ ?_
                  rotate_left
                  · intro W hW; first | (go_simp; done) | (go_simp; with_reducible rfl)
                  try simp only [Act.put, List.setIfInBounds_toArray, List.set_cons_zero, List.set_cons_succ]
                  refine wpG_done (by kernel_rfl) ?_
                  have hbz := stepB hby.drew b8
                  go_wp2
                  go_roundw
                  case rel => exact ⟨1, S4, by omega, by go_num, rfl, HJ2, hbz⟩
                  case measure => simp [intOf] <;> omega
                · go_wp2_with fail
                  have hB9 := hB2.kept hby
                  refine wpG_begin (by kernel_rfl) ?_
                  refine wpG_take (i := 0) (oi := { dst := some 60, op := Op.move (Operand.tmp 4), type := 9, pos := "ref.go:78", after := #[], guard := none }) (v := ?_) rfl (by kernel_rfl) (by kernel_rfl) (by kernel_rfl) (by rfl) ?_ ?_
                  rotate_left
                  · intro W hW; first | (go_simp; done) | (go_simp; with_reducible rfl)
                  try simp only [Act.put, List.setIfInBounds_toArray, List.set_cons_zero, List.set_cons_succ]
                  refine wpG_take (i := 2) (oi := { dst := some 62, op := Op.fieldAddr 33 (Operand.tmp 1) 4, type := 0, pos := "ref.go:78", after := #[], guard := none }) (v := ?_) rfl (by kernel_rfl) (by kernel_rfl) (by kernel_rfl) (by rfl) ?_ ?_
                  rotate_left
                  · intro W hW; first | (go_simp; done) | (go_simp; with_reducible rfl)
                  try simp only [Act.put, List.setIfInBounds_toArray, List.set_cons_zero, List.set_cons_succ]
                  refine wpG_take (i := 3) (oi := { dst := some 63, op := Op.load 31 (Operand.tmp 62), type := 31, pos := "ref.go:78", after := #[{ on := 2, ground := Ground.data }], guard := none }) (v := ?_) rfl (by kernel_rfl) (by kernel_rfl) (by kernel_rfl) (by rfl) ?_ ?_
                  rotate_left
                  · intro W hW; have hcW := cellD15 HE4.out hW; first | (go_simp; done) | (go_simp; with_reducible rfl)
                  try simp only [Act.put, List.setIfInBounds_toArray, List.set_cons_zero, List.set_cons_succ]
                  refine wpG_take (i := 4) (oi := { dst := some 64, op := Op.move (Operand.tmp 5), type := 3, pos := "ref.go:78", after := #[], guard := none }) (v := ?_) rfl (by kernel_rfl) (by kernel_rfl) (by kernel_rfl) (by rfl) ?_ ?_
                  rotate_left
                  · intro W hW; first | (go_simp; done) | (go_simp; with_reducible rfl)
                  try simp only [Act.put, List.setIfInBounds_toArray, List.set_cons_zero, List.set_cons_succ]
                  refine wpG_take (i := 5) (oi := { dst := some 65, op := Op.indexAddr 31 (Operand.tmp 63) (Operand.tmp 64), type := 0, pos := "ref.go:78", after := #[{ on := 3, ground := Ground.data }, { on := 4, ground := Ground.data }], guard := none }) (v := ?_) rfl (by kernel_rfl) (by kernel_rfl) (by kernel_rfl) (by rfl) ?_ ?_
                  rotate_left
                  · intro W hW; first | (go_simp; done) | (go_simp; with_reducible rfl)
                  try simp only [Act.put, List.setIfInBounds_toArray, List.set_cons_zero, List.set_cons_succ]
                  refine wpG_take (i := 6) (oi := { dst := some 66, op := Op.load 71 (Operand.tmp 65), type := 71, pos := "ref.go:78", after := #[{ on := 5, ground := Ground.data }], guard := none }) (v := ?_) rfl (by kernel_rfl) (by kernel_rfl) (by kernel_rfl) (by rfl) ?_ ?_
                  rotate_left
                  · intro W hW; have hcW := cellD15 HEr.out hW; first | (go_simp; done) | (go_simp; with_reducible rfl)
                  try simp only [Act.put, List.setIfInBounds_toArray, List.set_cons_zero, List.set_cons_succ]
                  refine wpG_take (i := 7) (oi := { dst := some 67, op := Op.move (Operand.tmp 6), type := 3, pos := "ref.go:78", after := #[], guard := none }) (v := ?_) rfl (by kernel_rfl) (by kernel_rfl) (by kernel_rfl) (by rfl) ?_ ?_
                  rotate_left
                  · intro W hW; first | (go_simp; done) | (go_simp; with_reducible rfl)
                  try simp only [Act.put, List.setIfInBounds_toArray, List.set_cons_zero, List.set_cons_succ]
                  refine wpG_take (i := 8) (oi := { dst := some 68, op := Op.indexAddr 71 (Operand.tmp 66) (Operand.tmp 67), type := 0, pos := "ref.go:78", after := #[{ on := 6, ground := Ground.data }, { on := 7, ground := Ground.data }], guard := none }) (v := ?_) rfl (by kernel_rfl) (by kernel_rfl) (by kernel_rfl) (by rfl) ?_ ?_
                  rotate_left
                  · intro W hW; first | (go_simp; done) | (go_simp; with_reducible rfl)
                  try simp only [Act.put, List.setIfInBounds_toArray, List.set_cons_zero, List.set_cons_succ]
                  refine wpG_take (i := 9) (oi := { dst := some 69, op := Op.load 3 (Operand.tmp 68), type := 3, pos := "ref.go:78", after := #[{ on := 8, ground := Ground.data }], guard := none }) (v := ?_) rfl (by kernel_rfl) (by kernel_rfl) (by kernel_rfl) (by rfl) ?_ ?_
                  rotate_left
                  · intro W hW; have hcW := cellD15 HCj.out hW; first | (go_simp; done) | (go_simp; with_reducible rfl)
                  try simp only [Act.put, List.setIfInBounds_toArray, List.set_cons_zero, List.set_cons_succ]
                  refine wpG_do (i := 1) (o := { dst := some 61, op := Op.call { callee := Callee.value (Operand.func 39), args := #[], argTypes := #[] }, type := 62, pos := "ref.go:78", after := #[], guard := none }) (by kernel_rfl) rfl (by rfl) fun K hK => ?_
                  go_simp
                  refine (words15_any _).mono ?_
                  rintro e w8 ⟨vw, rfl, hrw, b8⟩
                  obtain ⟨gw, ow, cw, rfl, hw1, hw2, hcw⟩ := hrw.cellAt (i := q) hq11
                  have hsw : (stC wdL)[q]'hq11 = Value.string ⟨(wdL.getD q []).toArray⟩ := by
                    have : q < wdL.length := hq11
                    simp [stC, this]
                  rw [hsw, ← HWd2.out] at hcw
                  clear hsw
                  rw [show (stC wdL).length = 11 from rfl] at hw1 ⊢
                  unfold maxLen at hw2
                  refine hK.out _ _ b8 ?_
                  clear hK K
                  try simp only [Act.put, List.setIfInBounds_toArray, List.set_cons_zero, List.set_cons_succ]
                  refine wpG_take (i := 10) (oi := { dst := some 70, op := Op.indexAddr 62 (Operand.tmp 61) (Operand.tmp 69), type := 0, pos := "ref.go:78", after := #[{ on := 1, ground := Ground.data }, { on := 9, ground := Ground.data }], guard := none }) (v := ?_) rfl (by kernel_rfl) (by kernel_rfl) (by kernel_rfl) (by rfl) ?_ ?_
                  rotate_left
                  · intro W hW; first | (go_simp; done) | (go_simp; with_reducible rfl)
                  try simp only [Act.put, List.setIfInBounds_toArray, List.set_cons_zero, List.set_cons_succ]
                  refine wpG_take (i := 11) (oi := { dst := some 71, op := Op.load 9 (Operand.tmp 70), type := 9, pos := "ref.go:78", after := #[{ on := 10, ground := Ground.data }], guard := none }) (v := ?_) rfl (by kernel_rfl) (by kernel_rfl) (by kernel_rfl) (by rfl) ?_ ?_
                  rotate_left
                  · intro W hW; have hcW := cellT15 hcw hW; first | (go_simp; done) | (go_simp; with_reducible rfl)
                  try simp only [Act.put, List.setIfInBounds_toArray, List.set_cons_zero, List.set_cons_succ]
                  refine wpG_take (i := 12) (oi := { dst := some 72, op := Op.binOp BinOp.add 9 (Operand.tmp 60) (Operand.tmp 71) 9, type := 9, pos := "ref.go:78", after := #[{ on := 0, ground := Ground.data }, { on := 11, ground := Ground.data }], guard := none }) (v := ?_) rfl (by kernel_rfl) (by kernel_rfl) (by kernel_rfl) (by rfl) ?_ ?_
                  rotate_left
                  · intro W hW; have hA4 := HA4.out W; first | (go_simp; done) | (go_simp; with_reducible rfl)
                  try simp only [Act.put, List.setIfInBounds_toArray, List.set_cons_zero, List.set_cons_succ]
                  refine wpG_take (i := 13) (oi := { dst := some 4, op := Op.assign (Operand.tmp 72), type := 9, pos := "ref.go:78", after := #[{ on := 12, ground := Ground.data }, { on := 1, ground := Ground.chain }, { on := 0, ground := Ground.phase }, { on := 1, ground := Ground.phase }, { on := 2, ground := Ground.phase }, { on := 3, ground := Ground.phase }, { on := 4, ground := Ground.phase }, { on := 5, ground := Ground.phase }, { on := 6, ground := Ground.phase }, { on := 7, ground := Ground.phase }, { on := 8, ground := Ground.phase }, { on := 9, ground := Ground.phase }, { on := 10, ground := Ground.phase }, { on := 11, ground := Ground.phase }, { on := 12, ground := Ground.phase }], guard := none }) (v := ?_) rfl (by kernel_rfl) (by kernel_rfl) (by kernel_rfl) (by rfl) ?_ ?_
                  rotate_left
                  · intro W hW; first | (go_simp; done) | (go_simp; with_reducible rfl)
                  try simp only [Act.put, List.setIfInBounds_toArray, List.set_cons_zero, List.set_cons_succ]
                  refine wpG_done (by kernel_rfl) ?_
                  have hbz := stepB hby.drew b8
                  go_wp2
                  go_roundw
                  case rel => exact ⟨j + 1, S4, by omega, by go_num, rfl, HJ2, hbz⟩
                  case measure => simp [intOf] <;> omega
              · have hdj : decide ((j : Int) < (M : Int)) = false := decide_eq_false (by omega)
                have hjI : (M : Int) ≤ (j : Int) := by omega
                obtain ⟨S5, hS5⟩ : ∃ l : List UInt8, l = s ++ [10] := ⟨_, rfl⟩
                have a5 := addT s [10] S5 hS5 (by have := HSl3.out; omega) (by decide)
                have HI2 : Hid (S5 = TA ++ txS p (i + 1)) := by
                  show _ = _
                  rw [hS5, HJ.out, HS2.out, show j = (p.tk i).length by have := HM.out; omega]
                  show _ = TA ++ (txS p i ++ (txD (p.ini i) ++ txR (p.tk i) (p.tk i).length ++ [10]))
                  simp
                have hbz := stepB hbx hby
                clear hS5
                go_wp2
                go_roundw
                case rel => exact ⟨i + 1, S5, by omega, by go_num, rfl, HI2, hbz⟩
                case measure => simp [intOf] <;> omega
        · have hd : decide ((i : Int) < (n : Int)) = false := decide_eq_false (by omega)
          have hiI : (n : Int) ≤ (i : Int) := by omega
          have HO : Hid (txT p = s) := by
            show _ = _
            unfold txT
            rw [if_pos HW.out, HI.out, HTd.out, show i = p.n by have := HN.out; omega]
          have hbz := stepB hbw hbx
          go_wp2
          go_ret
          exact ⟨by rw [HO.out]; rfl, hbz⟩
  · have hf : wrB p = false := by simpa using hw
    have HF : Hid (txT p = []) := by show _ = _; unfold txT; rw [hf]; rfl
    rw [hf]
    clear hw hf
    go_wp2
    go_ret
    exact ⟨by rw [HF.out]; rfl, hbw⟩
end Go.Proofs.YtpoibhhijidobaaGreatDoor
