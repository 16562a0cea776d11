/- What the law PatternGiven answers at every input: the walk. -/
import Derived.Test.YtpoibhhijidobaaGreatDoorAw15
import Derived.Test.YtpoibhhijidobaaGreatDoorQa
namespace Go.Proofs.YtpoibhhijidobaaGreatDoor
open Go.ChangeShapes Go.WideShapes Go.ChangeAt Go.RowKit
set_option linter.unusedSimpArgs false
set_option linter.unusedVariables false

/-- The text of a name, as the law gathers it out of the first i. -/
def isS (x : List UInt8) : Nat → List UInt8
  | 0 => []
  | i + 1 => if (gvL.getD i []).getD 0 [] = x then (gvL.getD i []).getD 1 [] else isS x i
set_option maxRecDepth 100000 in
theorem is_all (x : List UInt8) : isS x 6 = (gvG x gvL).1 ∧ (gvG x gvL).2 = decide ((gvG x gvL).1 ≠ []) := by
  by_cases h0 : gvN0 = x
  · subst h0; decide +kernel
  by_cases h1 : gvN1 = x
  · subst h1; decide +kernel
  by_cases h2 : gvN2 = x
  · subst h2; decide +kernel
  by_cases h3 : gvN3 = x
  · subst h3; decide +kernel
  by_cases h4 : gvN4 = x
  · subst h4; decide +kernel
  by_cases h5 : gvN5 = x
  · subst h5; decide +kernel
  have e1 : gvG x gvL = ([], false) := gvG_miss x gvL fun k hk => by
    match k, hk with
    | 0, _ => exact h0
    | 1, _ => exact h1
    | 2, _ => exact h2
    | 3, _ => exact h3
    | 4, _ => exact h4
    | 5, _ => exact h5
  have e2 : isS x 6 = [] := by
    show (if gvN5 = x then _ else if gvN4 = x then _ else if gvN3 = x then _ else if gvN2 = x then _ else if gvN1 = x then _ else if gvN0 = x then _ else []) = []
    rw [if_neg h5, if_neg h4, if_neg h3, if_neg h2, if_neg h1, if_neg h0]
  rw [e1, e2]
  decide
theorem gv_hits : ∀ i, i < 6 → gvG ((gvL.getD i []).getD 0 []) gvL = ((gvL.getD i []).getD 1 [], true) ∧ gvL.getD i [] = [(gvL.getD i []).getD 0 [], (gvL.getD i []).getD 1 []] ∧ ((gvL.getD i []).getD 1 []).length ≤ 1000 := by decide +kernel
theorem gv_name : ∀ i, i < 6 → gvS[i]? = some ((gvL.getD i []).getD 0 []) ∧ [gvT0, gvT1, gvT2, gvT3, gvT4, gvT5][i]? = some ((gvL.getD i []).getD 1 []) := by decide +kernel
/-- All that the law asks of a given pattern. -/
theorem gv_facts (i : Nat) (h : i < 6) : ∃ p : Ptn, gvL.getD i [] = [p.name, txT p] ∧ gvS[i]? = some p.name ∧ gvG p.name gvL = (txT p, true) ∧ psQ (txT p) = (p, 0) ∧ ckA p = 0 ∧ hyB p = true ∧ p.name.length ≤ maxLen ∧ (txT p).length ≤ maxLen := by
  obtain ⟨p, h1, h2, h3, h4, h5, h6, h7⟩ := gv_at i h
  obtain ⟨k1, k2, k3⟩ := gv_hits i h
  obtain ⟨k4, k5⟩ := gv_name i h
  have e1 : (gvL.getD i []).getD 0 [] = p.name := Option.some.inj (k4.symm.trans h6)
  have e2 : (gvL.getD i []).getD 1 [] = txT p := Option.some.inj (k5.symm.trans h5)
  rw [e1, e2] at k1 k2
  rw [e2] at k3
  rw [e1] at k4
  have hn := nm_len h2
  refine ⟨p, k2, k4, k1, ?_, ?_, h4, by unfold maxLen; omega, by unfold maxLen; omega⟩
  · rw [psQ_eq]; exact h7
  · rw [ckA_eq]; exact h3
/-- The i-th name and text, as both have them. -/
structure GvA (al an : Option Addr) (i b o b2 o2 c bn on : Nat) (NB TB : ByteArray) (w : World) : Prop where
  l : al = some ⟨b, o, none⟩
  n : an = some ⟨bn, on, none⟩
  row : w.cell? ⟨b, o + i, none⟩ = some (.slice (some ⟨b2, o2, none⟩) 2 c)
  c0 : w.cell? ⟨b2, o2, none⟩ = some (.string NB)
  c1 : w.cell? ⟨b2, o2 + 1, none⟩ = some (.string TB)
  cn : w.cell? ⟨bn, on + i, none⟩ = some (.string NB)
  z1 : 2 ≤ c
  z2 : c ≤ maxLen
theorem GvA.kept {al an : Option Addr} {i b o b2 o2 c bn on : Nat} {NB TB : ByteArray} {w w' : World} (h : GvA al an i b o b2 o2 c bn on NB TB w) (hb : Below w.heap.size w w') : GvA al an i b o b2 o2 c bn on NB TB w' :=
  ⟨h.l, h.n, cellKP h.row hb, cellKP h.c0 hb, cellKP h.c1 hb, cellKP h.cn hb, h.z1, h.z2⟩
theorem gva_at {w : World} {al an : Option Addr} {n cl m cn : Nat} {vs : List Value} (hl : RdC w (.slice al n cl) vs) (h6 : vs.length = 6) (hr : ∀ k (h : k < vs.length), RdC w vs[k] (stC (gvL.getD k []))) (hn : RdC w (.slice an m cn) (stC gvS)) (i : Nat) (hi : i < 6) :
    ∃ b o b2 o2 c bn on, GvA al an i b o b2 o2 c bn on ⟨((gvL.getD i []).getD 0 []).toArray⟩ ⟨((gvL.getD i []).getD 1 []).toArray⟩ w := by
  obtain ⟨b, o, _, ev, -, -, c1⟩ := hl.cellAt (i := i) (by omega)
  have h2 := hr i (by omega)
  rw [(gv_hits i hi).2.1] at h2
  generalize (gvL.getD i []).getD 1 [] = T at h2
  have hN := (gv_name i hi).1
  generalize (gvL.getD i []).getD 0 [] = N at h2 hN
  obtain ⟨b2, o2, c, e2, z1, z2, d0⟩ := h2.cellAt (i := 0) (by show 0 < 2; omega)
  obtain ⟨b3, o3, c3, e3, -, -, d1⟩ := h2.cellAt (i := 1) (by show 1 < 2; omega)
  rw [e2] at e3 c1
  simp only [Value.slice.injEq, Option.some.injEq, Addr.mk.injEq] at e3 ev
  obtain ⟨⟨rfl, rfl, -⟩, -, rfl⟩ := e3
  have h6n : (stC gvS).length = 6 := rfl
  obtain ⟨bn, on, _, e4, -, -, dn⟩ := hn.cellAt (i := i) (by omega)
  simp only [Value.slice.injEq] at e4
  refine ⟨b, o, b2, o2, c, bn, on, ev.1, e4.1, c1, d0, d1, ?_, z1, z2⟩
  rw [dn]
  have : (stC gvS)[i]? = some (.string ⟨N.toArray⟩) := by
    unfold stC
    rw [List.getElem?_map, hN]
    rfl
  rw [List.getElem?_eq_getElem (by omega)] at this
  exact this
set_option maxRecDepth 100000 in
set_option maxHeartbeats 8000000 in
theorem given_walk (x : List UInt8) (w : World) (hT : TkT w) :
    Calls Tryz.prog 8 #[.string ⟨x.toArray⟩] w fun e w' => e = .returned (.bool true) ∧ Below w.heap.size w w' := by
  have HT : Hid (TkT w) := hT
  obtain ⟨XB, hXB⟩ : ∃ B : ByteArray, B = ⟨x.toArray⟩ := ⟨_, rfl⟩
  have HXl : Hid (XB.toList = x) := by show _ = _; rw [hXB]; exact str_toList _
  have HXB : Hid (XB = ⟨x.toArray⟩) := hXB
  rw [← hXB]
  clear hXB hT
  go_enter Tryz.func8, Tryz.ntmps8
  go_wp2_with fail
  refine (awake_any _ HT.out).mono ?_
  rintro e w2 ⟨rfl, hbw⟩
  go_wp2_with fail
  refine (given15_any _).mono ?_
  rintro e w3 ⟨vl, vs, rfl, hl, hl6, hlr, b3⟩
  replace hbw := stepB hbw b3
  have HL : Hid (RdC w3 vl vs ∧ vs.length = 6 ∧ ∀ k (h : k < vs.length), RdC w3 vs[k] (stC (gvL.getD k []))) := ⟨hl, hl6, hlr⟩
  obtain ⟨al, cl, rfl, hl1, hl2⟩ : ∃ a c, vl = .slice a 6 c ∧ 6 ≤ c ∧ c ≤ maxLen := by
    obtain ⟨a, c, e, h1, h2, -⟩ := hl
    rw [hl6] at e h1
    exact ⟨a, c, e, h1, h2⟩
  clear b3 hl hl6 hlr
  go_wp2_with fail
  refine (names_any _).mono ?_
  rintro e w4 ⟨vn, rfl, hO⟩
  have b4 := hO.below
  have hn : RdC w4 vn (stC gvS) := hO.rdC rfl
  obtain ⟨an, cn, rfl, hn1, hn2⟩ : ∃ a c, vn = .slice a 6 c ∧ 6 ≤ c ∧ c ≤ maxLen := by
    obtain ⟨a, c, e, h1, h2, -⟩ := id hn
    exact ⟨a, c, e, h1, h2⟩
  have HG4 : Hid (∀ i, i < 6 → ∃ b o b2 o2 c bn on, GvA al an i b o b2 o2 c bn on ⟨((gvL.getD i []).getD 0 []).toArray⟩ ⟨((gvL.getD i []).getD 1 []).toArray⟩ w4) := by
    show ∀ i, _
    intro i hi
    exact gva_at (HL.out.1.kept b4) HL.out.2.1 (fun k hk => (HL.out.2.2 k hk).kept b4) hn i hi
  replace hbw := stepB hbw b4
  unfold maxLen at hl2 hn2
  clear hO hn b4 HL
  go_wp2_with fail
  rw [HXB.out]
  refine (given_any x _).mono ?_
  rw [← HXB.out]
  rintro e w5 ⟨rfl, b5⟩
  have HG : Hid (∀ i, i < 6 → ∃ b o b2 o2 c bn on, GvA al an i b o b2 o2 c bn on ⟨((gvL.getD i []).getD 0 []).toArray⟩ ⟨((gvL.getD i []).getD 1 []).toArray⟩ w5) := by
    show ∀ i, _
    intro i hi
    obtain ⟨b, o, b2, o2, c, bn, on, hg⟩ := HG4.out i hi
    exact ⟨b, o, b2, o2, c, bn, on, hg.kept b5⟩
  have HBw : Hid (Below w.heap.size w w5) := stepB hbw b5
  obtain ⟨TX, hTX⟩ : ∃ B : ByteArray, B = ⟨(gvG x gvL).1.toArray⟩ := ⟨_, rfl⟩
  obtain ⟨TF, hTF⟩ : ∃ b : Bool, b = (gvG x gvL).2 := ⟨_, rfl⟩
  rw [← hTX, ← hTF]
  have HTX : Hid (TX = ⟨(gvG x gvL).1.toArray⟩) := hTX
  have HTF : Hid (TF = (gvG x gvL).2) := hTF
  clear hTX hTF HG4 hbw b5
  go_wp2
  go_loopw [8, 9] (fun sv iv wx => ∃ i : Nat, i ≤ 6 ∧ iv = .int .i64 (i : Int) ∧ Below w5.heap.size w5 wx ∧ sv = .string ⟨(isS x i).toArray⟩) (fun _ iv _ => 6 - (intOf iv).toNat)
  case atStart => exact ⟨0, by omega, rfl, Below.refl _ _, rfl⟩
  case round =>
    obtain ⟨i, hi, rfl, hbx, hsv⟩ := hrel
    by_cases hlt : i < 6
    · have hd : decide ((i : Int) < 6) = true := decide_eq_true (by omega)
      have hiI : (i : Int) < 6 := by omega
      obtain ⟨b, o, b2, o2, c, bn, on, hg⟩ := HG.out i hlt
      obtain ⟨p, f1, f2, f3, f4, f5, f6, f7, f8⟩ := gv_facts i hlt
      have HS8 : Hid (u8 = .string ⟨(isS x i).toArray⟩) := hsv
      have HSn : Hid (isS x (i + 1) = if p.name = x then txT p else isS x i) := by
        show (if (gvL.getD i []).getD 0 [] = x then (gvL.getD i []).getD 1 [] else isS x i) = _
        rw [f1]
        rfl
      rw [f1] at hg
      replace hg : GvA al an i b o b2 o2 c bn on ⟨p.name.toArray⟩ ⟨(txT p).toArray⟩ w5 := hg
      obtain ⟨NB, hNB⟩ : ∃ B : ByteArray, B = ⟨p.name.toArray⟩ := ⟨_, rfl⟩
      obtain ⟨TB, hTB⟩ : ∃ B : ByteArray, B = ⟨(txT p).toArray⟩ := ⟨_, rfl⟩
      rw [← hNB, ← hTB] at hg
      have HNB : Hid (NB = ⟨p.name.toArray⟩) := hNB
      have HTB : Hid (TB = ⟨(txT p).toArray⟩) := hTB
      have HNl : Hid (NB.toList = p.name) := by show _ = _; rw [hNB]; exact str_toList _
      have HF : Hid (gvG p.name gvL = (txT p, true) ∧ psQ (txT p) = (p, 0) ∧ ckA p = 0 ∧ hyB p = true ∧ p.name.length ≤ maxLen ∧ (txT p).length ≤ maxLen) := ⟨f3, f4, f5, f6, f7, f8⟩
      obtain ⟨rfl, rfl, -, -, -, -, z1, z2⟩ := id hg
      unfold maxLen at z2
      have HGA : Hid (GvA (some ⟨b, o, none⟩) (some ⟨bn, on, none⟩) i b o b2 o2 c bn on NB TB w5) := hg
      have ga := hg.kept hbx
      have g1 := ga.row
      have g2 := ga.c0
      have q0 : (TB.toList != TB.toList) = false := by simp
      have q1 : (NB.toList != NB.toList) = false := by simp
      clear hg ga f1 f2 f3 f4 f5 f6 f7 f8 hNB hTB hsv
      go_wp2_with fail
      rw [HNB.out]
      refine (given_any p.name _).mono ?_
      rw [HF.out.1, ← HNB.out, ← HTB.out]
      rintro e w6 ⟨rfl, b6⟩
      replace hbx := stepB hbx b6
      clear g1 g2 b6
      go_wp2_with fail
      rw [HTB.out]
      refine (parse_any (txT p) HF.out.2.2.2.2.2 _ ((HT.out.kept HBw.out).kept hbx)).mono ?_
      rw [HF.out.2.1, ← HTB.out]
      rintro e w7 ⟨vm, rfl, hm, b7⟩
      dsimp only at hm ⊢
      replace hbx := stepB hbx b7
      obtain ⟨am, nm, cm, em⟩ : ∃ a n c, vm = .slice a n c := by obtain ⟨a, c, e, -⟩ := hm.form; exact ⟨a, _, c, e⟩
      have HVm : Hid (vm = .slice am nm cm) := em
      clear em b7
      go_wp2_with (refine wpList_alloc_blk rfl 26 rfl (paC zeP (.slice none 0 0)) (allocPa _) ?_)
      intro w8 r8 b8 s8
      go_wp2_with (refine wpList_store_part rfl 26 _ _ rfl rfl (paC p vm) rfl [] (paC zeP (.slice none 0 0)) [] (paC p vm) r8 (whole15 _) (whole15 _) rfl rfl (paInfo zeP (.slice none 0 0)) (by rw [HVm.out]; exact paC_all _ _ _ _) ?_)
      intro w9 r9 hw9
      have b9 := hw9.below _ _ (Nat.le_refl _) b8
      have HMd : Hid (MsR w9.drew vm p) := hm.kept b9.drew
      replace hbx := (stepB hbx b9).drew
      have rd : BlkAt w7.heap.size 26 (paC p vm) w9.drew := r9.drew
      have ga := HGA.out.kept hbx
      have g1 := ga.row
      have g2 := ga.c0
      have g3 := ga.c1
      have g4 := ga.cn
      clear r8 b8 s8 r9 hw9 b9 hm ga
      go_wp2_with fail
      refine wpG_begin (by kernel_rfl) ?_
      refine wpG_take (i := 0) (oi := { dst := some 45, op := Op.move (Operand.tmp 11), type := 4, pos := "law.go:156", after := #[], guard := none }) (v := ?_) rfl (by kernel_rfl) (by kernel_rfl) (by kernel_rfl) (by rfl) ?_ ?_
      rotate_left
      · intro W hW; first | (go_simp; done) | (go_simp; with_reducible rfl)
      try simp only [Act.put, List.setIfInBounds_toArray, List.set_cons_zero, List.set_cons_succ]
      refine wpG_take (i := 1) (oi := { dst := some 46, op := Op.unOp UnOp.not 4 (Operand.tmp 45), type := 4, pos := "law.go:156", after := #[{ on := 0, ground := Ground.data }], guard := none }) (v := ?_) rfl (by kernel_rfl) (by kernel_rfl) (by kernel_rfl) (by rfl) ?_ ?_
      rotate_left
      · intro W hW; first | (go_simp; done) | (go_simp; with_reducible rfl)
      try simp only [Act.put, List.setIfInBounds_toArray, List.set_cons_zero, List.set_cons_succ]
      refine wpG_take (i := 2) (oi := { dst := some 47, op := Op.move (Operand.tmp 46), type := 4, pos := "law.go:156", after := #[{ on := 1, ground := Ground.data }], guard := none }) (v := ?_) rfl (by kernel_rfl) (by kernel_rfl) (by kernel_rfl) (by rfl) ?_ ?_
      rotate_left
      · intro W hW; first | (go_simp; done) | (go_simp; with_reducible rfl)
      try simp only [Act.put, List.setIfInBounds_toArray, List.set_cons_zero, List.set_cons_succ]
      refine wpG_take (i := 3) (oi := { dst := some 48, op := Op.move (Operand.tmp 10), type := 9, pos := "law.go:156", after := #[{ on := 2, ground := Ground.guard }], guard := some (2, false) }) (v := ?_) rfl (by kernel_rfl) (by kernel_rfl) (by kernel_rfl) (by rfl) ?_ ?_
      rotate_left
      · intro W hW; first | (go_simp; done) | (go_simp; with_reducible rfl)
      try simp only [Act.put, List.setIfInBounds_toArray, List.set_cons_zero, List.set_cons_succ]
      refine wpG_take (i := 4) (oi := { dst := some 49, op := Op.move (Operand.tmp 4), type := 60, pos := "law.go:156", after := #[{ on := 2, ground := Ground.guard }], guard := some (2, false) }) (v := ?_) rfl (by kernel_rfl) (by kernel_rfl) (by kernel_rfl) (by rfl) ?_ ?_
      rotate_left
      · intro W hW; first | (go_simp; done) | (go_simp; with_reducible rfl)
      try simp only [Act.put, List.setIfInBounds_toArray, List.set_cons_zero, List.set_cons_succ]
      refine wpG_take (i := 5) (oi := { dst := some 50, op := Op.move (Operand.tmp 9), type := 3, pos := "law.go:156", after := #[{ on := 2, ground := Ground.guard }], guard := some (2, false) }) (v := ?_) rfl (by kernel_rfl) (by kernel_rfl) (by kernel_rfl) (by rfl) ?_ ?_
      rotate_left
      · intro W hW; first | (go_simp; done) | (go_simp; with_reducible rfl)
      try simp only [Act.put, List.setIfInBounds_toArray, List.set_cons_zero, List.set_cons_succ]
      refine wpG_take (i := 6) (oi := { dst := some 51, op := Op.indexAddr 60 (Operand.tmp 49) (Operand.tmp 50), type := 0, pos := "law.go:156", after := #[{ on := 4, ground := Ground.data }, { on := 5, ground := Ground.data }, { on := 2, ground := Ground.guard }], guard := some (2, false) }) (v := ?_) rfl (by kernel_rfl) (by kernel_rfl) (by kernel_rfl) (by rfl) ?_ ?_
      rotate_left
      · intro W hW; first | (go_simp; done) | (go_simp; with_reducible rfl)
      try simp only [Act.put, List.setIfInBounds_toArray, List.set_cons_zero, List.set_cons_succ]
      refine wpG_take (i := 7) (oi := { dst := some 52, op := Op.load 62 (Operand.tmp 51), type := 62, pos := "law.go:156", after := #[{ on := 6, ground := Ground.data }, { on := 2, ground := Ground.guard }], guard := some (2, false) }) (v := ?_) rfl (by kernel_rfl) (by kernel_rfl) (by kernel_rfl) (by rfl) ?_ ?_
      rotate_left
      · intro W hW; have hcW := cellKP g1 hW; first | (go_simp; done) | (go_simp; with_reducible rfl)
      try simp only [Act.put, List.setIfInBounds_toArray, List.set_cons_zero, List.set_cons_succ]
      refine wpG_take (i := 8) (oi := { dst := some 53, op := Op.indexAddr 62 (Operand.tmp 52) (Operand.const (Value.int IntKind.i64 1)), type := 0, pos := "law.go:156", after := #[{ on := 7, ground := Ground.data }, { on := 2, ground := Ground.guard }], guard := some (2, false) }) (v := ?_) rfl (by kernel_rfl) (by kernel_rfl) (by kernel_rfl) (by rfl) ?_ ?_
      rotate_left
      · intro W hW; first | (go_simp; done) | (go_simp; with_reducible rfl)
      try simp only [Act.put, List.setIfInBounds_toArray, List.set_cons_zero, List.set_cons_succ]
      refine wpG_take (i := 9) (oi := { dst := some 54, op := Op.load 9 (Operand.tmp 53), type := 9, pos := "law.go:156", after := #[{ on := 8, ground := Ground.data }, { on := 2, ground := Ground.guard }], guard := some (2, false) }) (v := ?_) rfl (by kernel_rfl) (by kernel_rfl) (by kernel_rfl) (by rfl) ?_ ?_
      rotate_left
      · intro W hW; have hcW := cellKP g3 hW; first | (go_simp; done) | (go_simp; with_reducible rfl)
      try simp only [Act.put, List.setIfInBounds_toArray, List.set_cons_zero, List.set_cons_succ]
      refine wpG_take (i := 10) (oi := { dst := some 55, op := Op.binOp BinOp.neq 9 (Operand.tmp 48) (Operand.tmp 54) 9, type := 4, pos := "law.go:156", after := #[{ on := 3, ground := Ground.data }, { on := 9, ground := Ground.data }, { on := 2, ground := Ground.guard }], guard := some (2, false) }) (v := ?_) rfl (by kernel_rfl) (by kernel_rfl) (by kernel_rfl) (by rfl) ?_ ?_
      rotate_left
      · intro W hW; first | (go_simp; done) | (go_simp; with_reducible rfl)
      try simp only [Act.put, List.setIfInBounds_toArray, List.set_cons_zero, List.set_cons_succ]
      refine wpG_take (i := 11) (oi := { dst := some 56, op := Op.pick (Operand.tmp 47) (Operand.const (Value.bool true)) (Operand.tmp 55), type := 4, pos := "law.go:156", after := #[{ on := 2, ground := Ground.data }, { on := 10, ground := Ground.data }], guard := none }) (v := ?_) rfl (by kernel_rfl) (by kernel_rfl) (by kernel_rfl) (by rfl) ?_ ?_
      rotate_left
      · intro W hW; first | (go_simp; done) | (go_simp; with_reducible rfl)
      try simp only [Act.put, List.setIfInBounds_toArray, List.set_cons_zero, List.set_cons_succ]
      refine wpG_take (i := 12) (oi := { dst := some 57, op := Op.move (Operand.tmp 56), type := 4, pos := "law.go:156", after := #[{ on := 11, ground := Ground.data }, { on := 2, ground := Ground.chain }], guard := none }) (v := ?_) rfl (by kernel_rfl) (by kernel_rfl) (by kernel_rfl) (by rfl) ?_ ?_
      rotate_left
      · intro W hW; first | (go_simp; done) | (go_simp; with_reducible rfl)
      try simp only [Act.put, List.setIfInBounds_toArray, List.set_cons_zero, List.set_cons_succ]
      refine wpG_take (i := 13) (oi := { dst := some 58, op := Op.move (Operand.tmp 5), type := 62, pos := "law.go:156", after := #[{ on := 12, ground := Ground.guard }], guard := some (12, false) }) (v := ?_) rfl (by kernel_rfl) (by kernel_rfl) (by kernel_rfl) (by rfl) ?_ ?_
      rotate_left
      · intro W hW; first | (go_simp; done) | (go_simp; with_reducible rfl)
      try simp only [Act.put, List.setIfInBounds_toArray, List.set_cons_zero, List.set_cons_succ]
      refine wpG_take (i := 14) (oi := { dst := some 59, op := Op.call { callee := Callee.builtin Builtin.len, args := #[Operand.tmp 58], argTypes := #[62] }, type := 3, pos := "law.go:156", after := #[{ on := 13, ground := Ground.data }, { on := 12, ground := Ground.guard }], guard := some (12, false) }) (v := ?_) rfl (by kernel_rfl) (by kernel_rfl) (by kernel_rfl) (by rfl) ?_ ?_
      rotate_left
      · intro W hW; first | (go_simp; done) | (go_simp; with_reducible rfl)
      try simp only [Act.put, List.setIfInBounds_toArray, List.set_cons_zero, List.set_cons_succ]
      refine wpG_take (i := 15) (oi := { dst := some 60, op := Op.move (Operand.tmp 4), type := 60, pos := "law.go:156", after := #[{ on := 12, ground := Ground.guard }], guard := some (12, false) }) (v := ?_) rfl (by kernel_rfl) (by kernel_rfl) (by kernel_rfl) (by rfl) ?_ ?_
      rotate_left
      · intro W hW; first | (go_simp; done) | (go_simp; with_reducible rfl)
      try simp only [Act.put, List.setIfInBounds_toArray, List.set_cons_zero, List.set_cons_succ]
      refine wpG_take (i := 16) (oi := { dst := some 61, op := Op.call { callee := Callee.builtin Builtin.len, args := #[Operand.tmp 60], argTypes := #[60] }, type := 3, pos := "law.go:156", after := #[{ on := 15, ground := Ground.data }, { on := 12, ground := Ground.guard }], guard := some (12, false) }) (v := ?_) rfl (by kernel_rfl) (by kernel_rfl) (by kernel_rfl) (by rfl) ?_ ?_
      rotate_left
      · intro W hW; first | (go_simp; done) | (go_simp; with_reducible rfl)
      try simp only [Act.put, List.setIfInBounds_toArray, List.set_cons_zero, List.set_cons_succ]
      refine wpG_take (i := 17) (oi := { dst := some 62, op := Op.binOp BinOp.neq 3 (Operand.tmp 59) (Operand.tmp 61) 3, type := 4, pos := "law.go:156", after := #[{ on := 14, ground := Ground.data }, { on := 16, ground := Ground.data }, { on := 12, ground := Ground.guard }], guard := some (12, false) }) (v := ?_) rfl (by kernel_rfl) (by kernel_rfl) (by kernel_rfl) (by rfl) ?_ ?_
      rotate_left
      · intro W hW; first | (go_simp; done) | (go_simp; with_reducible rfl)
      try simp only [Act.put, List.setIfInBounds_toArray, List.set_cons_zero, List.set_cons_succ]
      refine wpG_take (i := 18) (oi := { dst := some 63, op := Op.pick (Operand.tmp 57) (Operand.const (Value.bool true)) (Operand.tmp 62), type := 4, pos := "law.go:156", after := #[{ on := 12, ground := Ground.data }, { on := 17, ground := Ground.data }], guard := none }) (v := ?_) rfl (by kernel_rfl) (by kernel_rfl) (by kernel_rfl) (by rfl) ?_ ?_
      rotate_left
      · intro W hW; first | (go_simp; done) | (go_simp; with_reducible rfl)
      try simp only [Act.put, List.setIfInBounds_toArray, List.set_cons_zero, List.set_cons_succ]
      refine wpG_take (i := 19) (oi := { dst := some 64, op := Op.move (Operand.tmp 63), type := 4, pos := "law.go:156", after := #[{ on := 18, ground := Ground.data }, { on := 12, ground := Ground.chain }], guard := none }) (v := ?_) rfl (by kernel_rfl) (by kernel_rfl) (by kernel_rfl) (by rfl) ?_ ?_
      rotate_left
      · intro W hW; first | (go_simp; done) | (go_simp; with_reducible rfl)
      try simp only [Act.put, List.setIfInBounds_toArray, List.set_cons_zero, List.set_cons_succ]
      refine wpG_take (i := 20) (oi := { dst := some 65, op := Op.move (Operand.tmp 5), type := 62, pos := "law.go:156", after := #[{ on := 19, ground := Ground.guard }], guard := some (19, false) }) (v := ?_) rfl (by kernel_rfl) (by kernel_rfl) (by kernel_rfl) (by rfl) ?_ ?_
      rotate_left
      · intro W hW; first | (go_simp; done) | (go_simp; with_reducible rfl)
      try simp only [Act.put, List.setIfInBounds_toArray, List.set_cons_zero, List.set_cons_succ]
      refine wpG_take (i := 21) (oi := { dst := some 66, op := Op.move (Operand.tmp 9), type := 3, pos := "law.go:156", after := #[{ on := 19, ground := Ground.guard }], guard := some (19, false) }) (v := ?_) rfl (by kernel_rfl) (by kernel_rfl) (by kernel_rfl) (by rfl) ?_ ?_
      rotate_left
      · intro W hW; first | (go_simp; done) | (go_simp; with_reducible rfl)
      try simp only [Act.put, List.setIfInBounds_toArray, List.set_cons_zero, List.set_cons_succ]
      refine wpG_take (i := 22) (oi := { dst := some 67, op := Op.indexAddr 62 (Operand.tmp 65) (Operand.tmp 66), type := 0, pos := "law.go:156", after := #[{ on := 20, ground := Ground.data }, { on := 21, ground := Ground.data }, { on := 19, ground := Ground.guard }], guard := some (19, false) }) (v := ?_) rfl (by kernel_rfl) (by kernel_rfl) (by kernel_rfl) (by rfl) ?_ ?_
      rotate_left
      · intro W hW; first | (go_simp; done) | (go_simp; with_reducible rfl)
      try simp only [Act.put, List.setIfInBounds_toArray, List.set_cons_zero, List.set_cons_succ]
      refine wpG_take (i := 23) (oi := { dst := some 68, op := Op.load 9 (Operand.tmp 67), type := 9, pos := "law.go:156", after := #[{ on := 22, ground := Ground.data }, { on := 19, ground := Ground.guard }], guard := some (19, false) }) (v := ?_) rfl (by kernel_rfl) (by kernel_rfl) (by kernel_rfl) (by rfl) ?_ ?_
      rotate_left
      · intro W hW; have hcW := cellKP g4 hW; first | (go_simp; done) | (go_simp; with_reducible rfl)
      try simp only [Act.put, List.setIfInBounds_toArray, List.set_cons_zero, List.set_cons_succ]
      refine wpG_take (i := 24) (oi := { dst := some 69, op := Op.move (Operand.tmp 4), type := 60, pos := "law.go:156", after := #[{ on := 19, ground := Ground.guard }], guard := some (19, false) }) (v := ?_) rfl (by kernel_rfl) (by kernel_rfl) (by kernel_rfl) (by rfl) ?_ ?_
      rotate_left
      · intro W hW; first | (go_simp; done) | (go_simp; with_reducible rfl)
      try simp only [Act.put, List.setIfInBounds_toArray, List.set_cons_zero, List.set_cons_succ]
      refine wpG_take (i := 25) (oi := { dst := some 70, op := Op.move (Operand.tmp 9), type := 3, pos := "law.go:156", after := #[{ on := 19, ground := Ground.guard }], guard := some (19, false) }) (v := ?_) rfl (by kernel_rfl) (by kernel_rfl) (by kernel_rfl) (by rfl) ?_ ?_
      rotate_left
      · intro W hW; first | (go_simp; done) | (go_simp; with_reducible rfl)
      try simp only [Act.put, List.setIfInBounds_toArray, List.set_cons_zero, List.set_cons_succ]
      refine wpG_take (i := 26) (oi := { dst := some 71, op := Op.indexAddr 60 (Operand.tmp 69) (Operand.tmp 70), type := 0, pos := "law.go:156", after := #[{ on := 24, ground := Ground.data }, { on := 25, ground := Ground.data }, { on := 19, ground := Ground.guard }], guard := some (19, false) }) (v := ?_) rfl (by kernel_rfl) (by kernel_rfl) (by kernel_rfl) (by rfl) ?_ ?_
      rotate_left
      · intro W hW; first | (go_simp; done) | (go_simp; with_reducible rfl)
      try simp only [Act.put, List.setIfInBounds_toArray, List.set_cons_zero, List.set_cons_succ]
      refine wpG_take (i := 27) (oi := { dst := some 72, op := Op.load 62 (Operand.tmp 71), type := 62, pos := "law.go:156", after := #[{ on := 26, ground := Ground.data }, { on := 19, ground := Ground.guard }], guard := some (19, false) }) (v := ?_) rfl (by kernel_rfl) (by kernel_rfl) (by kernel_rfl) (by rfl) ?_ ?_
      rotate_left
      · intro W hW; have hcW := cellKP g1 hW; first | (go_simp; done) | (go_simp; with_reducible rfl)
      try simp only [Act.put, List.setIfInBounds_toArray, List.set_cons_zero, List.set_cons_succ]
      refine wpG_take (i := 28) (oi := { dst := some 73, op := Op.indexAddr 62 (Operand.tmp 72) (Operand.const (Value.int IntKind.i64 0)), type := 0, pos := "law.go:156", after := #[{ on := 27, ground := Ground.data }, { on := 19, ground := Ground.guard }], guard := some (19, false) }) (v := ?_) rfl (by kernel_rfl) (by kernel_rfl) (by kernel_rfl) (by rfl) ?_ ?_
      rotate_left
      · intro W hW; first | (go_simp; done) | (go_simp; with_reducible rfl)
      try simp only [Act.put, List.setIfInBounds_toArray, List.set_cons_zero, List.set_cons_succ]
      refine wpG_take (i := 29) (oi := { dst := some 74, op := Op.load 9 (Operand.tmp 73), type := 9, pos := "law.go:156", after := #[{ on := 28, ground := Ground.data }, { on := 19, ground := Ground.guard }], guard := some (19, false) }) (v := ?_) rfl (by kernel_rfl) (by kernel_rfl) (by kernel_rfl) (by rfl) ?_ ?_
      rotate_left
      · intro W hW; have hcW := cellKP g2 hW; first | (go_simp; done) | (go_simp; with_reducible rfl)
      try simp only [Act.put, List.setIfInBounds_toArray, List.set_cons_zero, List.set_cons_succ]
      refine wpG_take (i := 30) (oi := { dst := some 75, op := Op.binOp BinOp.neq 9 (Operand.tmp 68) (Operand.tmp 74) 9, type := 4, pos := "law.go:156", after := #[{ on := 23, ground := Ground.data }, { on := 29, ground := Ground.data }, { on := 19, ground := Ground.guard }], guard := some (19, false) }) (v := ?_) rfl (by kernel_rfl) (by kernel_rfl) (by kernel_rfl) (by rfl) ?_ ?_
      rotate_left
      · intro W hW; first | (go_simp; done) | (go_simp; with_reducible rfl)
      try simp only [Act.put, List.setIfInBounds_toArray, List.set_cons_zero, List.set_cons_succ]
      refine wpG_take (i := 31) (oi := { dst := some 76, op := Op.pick (Operand.tmp 64) (Operand.const (Value.bool true)) (Operand.tmp 75), type := 4, pos := "law.go:156", after := #[{ on := 19, ground := Ground.data }, { on := 30, ground := Ground.data }], guard := none }) (v := ?_) rfl (by kernel_rfl) (by kernel_rfl) (by kernel_rfl) (by rfl) ?_ ?_
      rotate_left
      · intro W hW; first | (go_simp; done) | (go_simp; with_reducible rfl)
      try simp only [Act.put, List.setIfInBounds_toArray, List.set_cons_zero, List.set_cons_succ]
      refine wpG_take (i := 32) (oi := { dst := some 77, op := Op.move (Operand.tmp 76), type := 4, pos := "law.go:156", after := #[{ on := 31, ground := Ground.data }, { on := 19, ground := Ground.chain }], guard := none }) (v := ?_) rfl (by kernel_rfl) (by kernel_rfl) (by kernel_rfl) (by rfl) ?_ ?_
      rotate_left
      · intro W hW; first | (go_simp; done) | (go_simp; with_reducible rfl)
      try simp only [Act.put, List.setIfInBounds_toArray, List.set_cons_zero, List.set_cons_succ]
      refine wpG_take (i := 33) (oi := { dst := some 78, op := Op.move (Operand.tmp 13), type := 27, pos := "law.go:156", after := #[{ on := 32, ground := Ground.guard }], guard := some (32, false) }) (v := ?_) rfl (by kernel_rfl) (by kernel_rfl) (by kernel_rfl) (by rfl) ?_ ?_
      rotate_left
      · intro W hW; first | (go_simp; done) | (go_simp; with_reducible rfl)
      try simp only [Act.put, List.setIfInBounds_toArray, List.set_cons_zero, List.set_cons_succ]
      refine wpG_take (i := 34) (oi := { dst := some 79, op := Op.binOp BinOp.neq 27 (Operand.tmp 78) (Operand.const (Value.int IntKind.i64 0)) 27, type := 4, pos := "law.go:156", after := #[{ on := 33, ground := Ground.data }, { on := 32, ground := Ground.guard }], guard := some (32, false) }) (v := ?_) rfl (by kernel_rfl) (by kernel_rfl) (by kernel_rfl) (by rfl) ?_ ?_
      rotate_left
      · intro W hW; first | (go_simp; done) | (go_simp; with_reducible rfl)
      try simp only [Act.put, List.setIfInBounds_toArray, List.set_cons_zero, List.set_cons_succ]
      refine wpG_take (i := 35) (oi := { dst := some 80, op := Op.pick (Operand.tmp 77) (Operand.const (Value.bool true)) (Operand.tmp 79), type := 4, pos := "law.go:156", after := #[{ on := 32, ground := Ground.data }, { on := 34, ground := Ground.data }], guard := none }) (v := ?_) rfl (by kernel_rfl) (by kernel_rfl) (by kernel_rfl) (by rfl) ?_ ?_
      rotate_left
      · intro W hW; first | (go_simp; done) | (go_simp; with_reducible rfl)
      try simp only [Act.put, List.setIfInBounds_toArray, List.set_cons_zero, List.set_cons_succ]
      refine wpG_take (i := 36) (oi := { dst := some 81, op := Op.move (Operand.tmp 80), type := 4, pos := "law.go:156", after := #[{ on := 35, ground := Ground.data }, { on := 32, ground := Ground.chain }], guard := none }) (v := ?_) rfl (by kernel_rfl) (by kernel_rfl) (by kernel_rfl) (by rfl) ?_ ?_
      rotate_left
      · intro W hW; first | (go_simp; done) | (go_simp; with_reducible rfl)
      try simp only [Act.put, List.setIfInBounds_toArray, List.set_cons_zero, List.set_cons_succ]
      refine wpG_take (i := 37) (oi := { dst := some 82, op := Op.load 26 (Operand.tmp 12), type := 26, pos := "law.go:156", after := #[{ on := 36, ground := Ground.guard }], guard := some (36, false) }) (v := ?_) rfl (by kernel_rfl) (by kernel_rfl) (by kernel_rfl) (by rfl) ?_ ?_
      rotate_left
      · intro W hW; refine Eq.trans (exec_load_part 26 _ (by rfl) (by rfl) [] (paC p vm) [] rd hW (whole15 _) rfl Tryz.underlying26 rfl (paInfo p _)) ?_; with_reducible rfl
      try simp only [Act.put, List.setIfInBounds_toArray, List.set_cons_zero, List.set_cons_succ]
      refine wpG_do (i := 38) (o := { dst := some 83, op := Op.call { callee := Callee.value (Operand.func 17), args := #[Operand.tmp 82], argTypes := #[26] }, type := 27, pos := "law.go:156", after := #[{ on := 37, ground := Ground.data }, { on := 36, ground := Ground.chain }, { on := 36, ground := Ground.guard }], guard := some (36, false) }) (by kernel_rfl) rfl (by rfl) fun K hK => ?_
      go_simp
      refine (check_any p vm _ rfl HF.out.2.2.2.2.1 _ HMd.out).mono ?_
      rintro e w10 ⟨rfl, b10⟩
      rw [HF.out.2.2.1]
      refine hK.out _ _ b10 ?_
      clear hK K
      have rd1 := rd.kept b10
      try simp only [Act.put, List.setIfInBounds_toArray, List.set_cons_zero, List.set_cons_succ]
      refine wpG_take (i := 39) (oi := { dst := some 84, op := Op.binOp BinOp.neq 27 (Operand.tmp 83) (Operand.const (Value.int IntKind.i64 0)) 27, type := 4, pos := "law.go:156", after := #[{ on := 38, ground := Ground.data }, { on := 36, ground := Ground.guard }], guard := some (36, false) }) (v := ?_) rfl (by kernel_rfl) (by kernel_rfl) (by kernel_rfl) (by rfl) ?_ ?_
      rotate_left
      · intro W hW; first | (go_simp; done) | (go_simp; with_reducible rfl)
      try simp only [Act.put, List.setIfInBounds_toArray, List.set_cons_zero, List.set_cons_succ]
      refine wpG_take (i := 40) (oi := { dst := some 85, op := Op.pick (Operand.tmp 81) (Operand.const (Value.bool true)) (Operand.tmp 84), type := 4, pos := "law.go:156", after := #[{ on := 36, ground := Ground.data }, { on := 39, ground := Ground.data }], guard := none }) (v := ?_) rfl (by kernel_rfl) (by kernel_rfl) (by kernel_rfl) (by rfl) ?_ ?_
      rotate_left
      · intro W hW; first | (go_simp; done) | (go_simp; with_reducible rfl)
      try simp only [Act.put, List.setIfInBounds_toArray, List.set_cons_zero, List.set_cons_succ]
      refine wpG_take (i := 41) (oi := { dst := some 86, op := Op.move (Operand.tmp 85), type := 4, pos := "law.go:156", after := #[{ on := 40, ground := Ground.data }, { on := 38, ground := Ground.chain }], guard := none }) (v := ?_) rfl (by kernel_rfl) (by kernel_rfl) (by kernel_rfl) (by rfl) ?_ ?_
      rotate_left
      · intro W hW; first | (go_simp; done) | (go_simp; with_reducible rfl)
      try simp only [Act.put, List.setIfInBounds_toArray, List.set_cons_zero, List.set_cons_succ]
      refine wpG_take (i := 42) (oi := { dst := some 87, op := Op.load 26 (Operand.tmp 12), type := 26, pos := "law.go:156", after := #[{ on := 41, ground := Ground.guard }], guard := some (41, false) }) (v := ?_) rfl (by kernel_rfl) (by kernel_rfl) (by kernel_rfl) (by rfl) ?_ ?_
      rotate_left
      · intro W hW; refine Eq.trans (exec_load_part 26 _ (by rfl) (by rfl) [] (paC p vm) [] rd1 hW (whole15 _) rfl Tryz.underlying26 rfl (paInfo p _)) ?_; with_reducible rfl
      try simp only [Act.put, List.setIfInBounds_toArray, List.set_cons_zero, List.set_cons_succ]
      refine wpG_do (i := 43) (o := { dst := some 88, op := Op.call { callee := Callee.value (Operand.func 21), args := #[Operand.tmp 87], argTypes := #[26] }, type := 4, pos := "law.go:156", after := #[{ on := 42, ground := Ground.data }, { on := 41, ground := Ground.chain }, { on := 41, ground := Ground.guard }], guard := some (41, false) }) (by kernel_rfl) rfl (by rfl) fun K hK => ?_
      go_simp
      refine (hybrid_any p vm _ rfl HF.out.2.2.2.2.1 _ (HMd.out.kept b10)).mono ?_
      rintro e w11 ⟨rfl, b11⟩
      rw [HF.out.2.2.2.1]
      refine hK.out _ _ b11 ?_
      clear hK K
      have rd2 := rd1.kept b11
      have bxx := stepB hbx (stepB b10 b11)
      try simp only [Act.put, List.setIfInBounds_toArray, List.set_cons_zero, List.set_cons_succ]
      refine wpG_take (i := 44) (oi := { dst := some 89, op := Op.unOp UnOp.not 4 (Operand.tmp 88), type := 4, pos := "law.go:156", after := #[{ on := 43, ground := Ground.data }, { on := 41, ground := Ground.guard }], guard := some (41, false) }) (v := ?_) rfl (by kernel_rfl) (by kernel_rfl) (by kernel_rfl) (by rfl) ?_ ?_
      rotate_left
      · intro W hW; first | (go_simp; done) | (go_simp; with_reducible rfl)
      try simp only [Act.put, List.setIfInBounds_toArray, List.set_cons_zero, List.set_cons_succ]
      refine wpG_take (i := 45) (oi := { dst := some 90, op := Op.pick (Operand.tmp 86) (Operand.const (Value.bool true)) (Operand.tmp 89), type := 4, pos := "law.go:156", after := #[{ on := 41, ground := Ground.data }, { on := 44, ground := Ground.data }], guard := none }) (v := ?_) rfl (by kernel_rfl) (by kernel_rfl) (by kernel_rfl) (by rfl) ?_ ?_
      rotate_left
      · intro W hW; first | (go_simp; done) | (go_simp; with_reducible rfl)
      try simp only [Act.put, List.setIfInBounds_toArray, List.set_cons_zero, List.set_cons_succ]
      refine wpG_take (i := 46) (oi := { dst := some 91, op := Op.move (Operand.tmp 90), type := 4, pos := "law.go:156", after := #[{ on := 45, ground := Ground.data }, { on := 43, ground := Ground.chain }], guard := none }) (v := ?_) rfl (by kernel_rfl) (by kernel_rfl) (by kernel_rfl) (by rfl) ?_ ?_
      rotate_left
      · intro W hW; first | (go_simp; done) | (go_simp; with_reducible rfl)
      try simp only [Act.put, List.setIfInBounds_toArray, List.set_cons_zero, List.set_cons_succ]
      refine wpG_take (i := 47) (oi := { dst := some 92, op := Op.load 26 (Operand.tmp 12), type := 26, pos := "law.go:156", after := #[{ on := 46, ground := Ground.guard }], guard := some (46, false) }) (v := ?_) rfl (by kernel_rfl) (by kernel_rfl) (by kernel_rfl) (by rfl) ?_ ?_
      rotate_left
      · intro W hW; refine Eq.trans (exec_load_part 26 _ (by rfl) (by rfl) [] (paC p vm) [] rd2 hW (whole15 _) rfl Tryz.underlying26 rfl (paInfo p _)) ?_; with_reducible rfl
      try simp only [Act.put, List.setIfInBounds_toArray, List.set_cons_zero, List.set_cons_succ]
      refine wpG_take (i := 49) (oi := { dst := some 94, op := Op.move (Operand.tmp 10), type := 9, pos := "law.go:156", after := #[{ on := 46, ground := Ground.guard }], guard := some (46, false) }) (v := ?_) rfl (by kernel_rfl) (by kernel_rfl) (by kernel_rfl) (by rfl) ?_ ?_
      rotate_left
      · intro W hW; first | (go_simp; done) | (go_simp; with_reducible rfl)
      try simp only [Act.put, List.setIfInBounds_toArray, List.set_cons_zero, List.set_cons_succ]
      refine wpG_do (i := 48) (o := { dst := some 93, op := Op.call { callee := Callee.value (Operand.func 15), args := #[Operand.tmp 92], argTypes := #[26] }, type := 9, pos := "law.go:156", after := #[{ on := 47, ground := Ground.data }, { on := 46, ground := Ground.chain }, { on := 46, ground := Ground.guard }], guard := some (46, false) }) (by kernel_rfl) rfl (by rfl) fun K hK => ?_
      go_simp
      refine (text_any p vm _ rfl HF.out.2.2.2.2.1 _ ((HMd.out.kept b10).kept b11) ((HT.out.kept HBw.out).kept bxx)).mono ?_
      rintro e w12 ⟨rfl, b12⟩
      rw [← HTB.out]
      refine hK.out _ _ b12 ?_
      clear hK K
      have m0 : w12.cell? ⟨w7.heap.size, 0, none⟩ = some (.string NB) := by rw [HNB.out]; exact (rd2.kept b12).cell 0
      have m4 := cellKP g4 (stepB b10 (stepB b11 b12))
      try simp only [Act.put, List.setIfInBounds_toArray, List.set_cons_zero, List.set_cons_succ]
      refine wpG_take (i := 50) (oi := { dst := some 95, op := Op.binOp BinOp.neq 9 (Operand.tmp 93) (Operand.tmp 94) 9, type := 4, pos := "law.go:156", after := #[{ on := 48, ground := Ground.data }, { on := 49, ground := Ground.data }, { on := 46, ground := Ground.guard }], guard := some (46, false) }) (v := ?_) rfl (by kernel_rfl) (by kernel_rfl) (by kernel_rfl) (by rfl) ?_ ?_
      rotate_left
      · intro W hW; first | (go_simp; done) | (go_simp; with_reducible rfl)
      try simp only [Act.put, List.setIfInBounds_toArray, List.set_cons_zero, List.set_cons_succ]
      refine wpG_take (i := 51) (oi := { dst := some 96, op := Op.pick (Operand.tmp 91) (Operand.const (Value.bool true)) (Operand.tmp 95), type := 4, pos := "law.go:156", after := #[{ on := 46, ground := Ground.data }, { on := 50, ground := Ground.data }], guard := none }) (v := ?_) rfl (by kernel_rfl) (by kernel_rfl) (by kernel_rfl) (by rfl) ?_ ?_
      rotate_left
      · intro W hW; first | (go_simp; done) | (go_simp; with_reducible rfl)
      try simp only [Act.put, List.setIfInBounds_toArray, List.set_cons_zero, List.set_cons_succ]
      refine wpG_take (i := 52) (oi := { dst := some 97, op := Op.move (Operand.tmp 96), type := 4, pos := "law.go:156", after := #[{ on := 51, ground := Ground.data }, { on := 48, ground := Ground.chain }], guard := none }) (v := ?_) rfl (by kernel_rfl) (by kernel_rfl) (by kernel_rfl) (by rfl) ?_ ?_
      rotate_left
      · intro W hW; first | (go_simp; done) | (go_simp; with_reducible rfl)
      try simp only [Act.put, List.setIfInBounds_toArray, List.set_cons_zero, List.set_cons_succ]
      refine wpG_take (i := 53) (oi := { dst := some 98, op := Op.fieldAddr 26 (Operand.tmp 12) 0, type := 0, pos := "law.go:156", after := #[{ on := 52, ground := Ground.guard }], guard := some (52, false) }) (v := ?_) rfl (by kernel_rfl) (by kernel_rfl) (by kernel_rfl) (by rfl) ?_ ?_
      rotate_left
      · intro W hW; first | (go_simp; done) | (go_simp; with_reducible rfl)
      try simp only [Act.put, List.setIfInBounds_toArray, List.set_cons_zero, List.set_cons_succ]
      refine wpG_take (i := 54) (oi := { dst := some 99, op := Op.load 9 (Operand.tmp 98), type := 9, pos := "law.go:156", after := #[{ on := 53, ground := Ground.data }, { on := 52, ground := Ground.guard }], guard := some (52, false) }) (v := ?_) rfl (by kernel_rfl) (by kernel_rfl) (by kernel_rfl) (by rfl) ?_ ?_
      rotate_left
      · intro W hW; have hcW := cellKP m0 hW; first | (go_simp; done) | (go_simp; with_reducible rfl)
      try simp only [Act.put, List.setIfInBounds_toArray, List.set_cons_zero, List.set_cons_succ]
      refine wpG_take (i := 55) (oi := { dst := some 100, op := Op.move (Operand.tmp 5), type := 62, pos := "law.go:156", after := #[{ on := 52, ground := Ground.guard }], guard := some (52, false) }) (v := ?_) rfl (by kernel_rfl) (by kernel_rfl) (by kernel_rfl) (by rfl) ?_ ?_
      rotate_left
      · intro W hW; first | (go_simp; done) | (go_simp; with_reducible rfl)
      try simp only [Act.put, List.setIfInBounds_toArray, List.set_cons_zero, List.set_cons_succ]
      refine wpG_take (i := 56) (oi := { dst := some 101, op := Op.move (Operand.tmp 9), type := 3, pos := "law.go:156", after := #[{ on := 52, ground := Ground.guard }], guard := some (52, false) }) (v := ?_) rfl (by kernel_rfl) (by kernel_rfl) (by kernel_rfl) (by rfl) ?_ ?_
      rotate_left
      · intro W hW; first | (go_simp; done) | (go_simp; with_reducible rfl)
      try simp only [Act.put, List.setIfInBounds_toArray, List.set_cons_zero, List.set_cons_succ]
      refine wpG_take (i := 57) (oi := { dst := some 102, op := Op.indexAddr 62 (Operand.tmp 100) (Operand.tmp 101), type := 0, pos := "law.go:156", after := #[{ on := 55, ground := Ground.data }, { on := 56, ground := Ground.data }, { on := 52, ground := Ground.guard }], guard := some (52, false) }) (v := ?_) rfl (by kernel_rfl) (by kernel_rfl) (by kernel_rfl) (by rfl) ?_ ?_
      rotate_left
      · intro W hW; first | (go_simp; done) | (go_simp; with_reducible rfl)
      try simp only [Act.put, List.setIfInBounds_toArray, List.set_cons_zero, List.set_cons_succ]
      refine wpG_take (i := 58) (oi := { dst := some 103, op := Op.load 9 (Operand.tmp 102), type := 9, pos := "law.go:156", after := #[{ on := 57, ground := Ground.data }, { on := 52, ground := Ground.guard }], guard := some (52, false) }) (v := ?_) rfl (by kernel_rfl) (by kernel_rfl) (by kernel_rfl) (by rfl) ?_ ?_
      rotate_left
      · intro W hW; have hcW := cellKP m4 hW; first | (go_simp; done) | (go_simp; with_reducible rfl)
      try simp only [Act.put, List.setIfInBounds_toArray, List.set_cons_zero, List.set_cons_succ]
      refine wpG_take (i := 59) (oi := { dst := some 104, op := Op.binOp BinOp.neq 9 (Operand.tmp 99) (Operand.tmp 103) 9, type := 4, pos := "law.go:156", after := #[{ on := 54, ground := Ground.data }, { on := 58, ground := Ground.data }, { on := 52, ground := Ground.guard }], guard := some (52, false) }) (v := ?_) rfl (by kernel_rfl) (by kernel_rfl) (by kernel_rfl) (by rfl) ?_ ?_
      rotate_left
      · intro W hW; first | (go_simp; done) | (go_simp; with_reducible rfl)
      try simp only [Act.put, List.setIfInBounds_toArray, List.set_cons_zero, List.set_cons_succ]
      refine wpG_take (i := 60) (oi := { dst := some 105, op := Op.pick (Operand.tmp 97) (Operand.const (Value.bool true)) (Operand.tmp 104), type := 4, pos := "law.go:156", after := #[{ on := 52, ground := Ground.data }, { on := 59, ground := Ground.data }], guard := none }) (v := ?_) rfl (by kernel_rfl) (by kernel_rfl) (by kernel_rfl) (by rfl) ?_ ?_
      rotate_left
      · intro W hW; first | (go_simp; done) | (go_simp; with_reducible rfl)
      try simp only [Act.put, List.setIfInBounds_toArray, List.set_cons_zero, List.set_cons_succ]
      refine wpG_done (by kernel_rfl) ?_
      have hb12 := stepB bxx b12
      have ga := HGA.out.kept hb12
      replace g1 := ga.row
      replace g2 := ga.c0
      clear ga g3 g4 rd rd1 rd2 m0 m4 b10 b11 b12 bxx hbx HMd
      by_cases he : p.name = x
      · have t1 : (NB.toList == XB.toList) = true := by rw [HNl.out, HXl.out, he]; simp
        have t2 : NB.toList = XB.toList := by rw [HNl.out, HXl.out, he]
        have HS9 : Hid (Value.string TB = .string ⟨(isS x (i + 1)).toArray⟩) := by show _ = _; rw [HSn.out, if_pos he, HTB.out]
        clear he
        go_wp2
        go_roundw
        case rel => exact ⟨i + 1, by omega, by go_num, hb12, HS9.out⟩
        case measure => simp [intOf] <;> omega
      · have t1 : (NB.toList == XB.toList) = false := by rw [HNl.out, HXl.out]; simpa using he
        have t2 : ¬ NB.toList = XB.toList := by rw [HNl.out, HXl.out]; exact he
        have HS9 : Hid (u8 = .string ⟨(isS x (i + 1)).toArray⟩) := by show _ = _; rw [HSn.out, if_neg he, HS8.out]
        clear he
        go_wp2
        go_roundw
        case rel => exact ⟨i + 1, by omega, by go_num, hb12, HS9.out⟩
        case measure => simp [intOf] <;> omega
    · have hd : decide ((i : Int) < 6) = false := decide_eq_false (by omega)
      have hiI : (6 : Int) ≤ (i : Int) := by omega
      have hsv2 : u8 = .string TX := by
        rw [hsv, HTX.out, show i = 6 by omega, (is_all x).1]
      subst hsv2
      have HE : Hid (Below w.heap.size w wr) := stepB HBw.out hbx
      have q0 : (TX.toList == TX.toList) = true := by simp
      obtain ⟨EB, hEB⟩ : ∃ e : Bool, e = TX.toList.isEmpty := ⟨_, rfl⟩
      have hTF : TF = !EB := by
        rw [hEB, HTF.out, (is_all x).2, HTX.out, str_toList]
        generalize (gvG x gvL).1 = L
        cases L <;> simp
      subst hTF
      have q1 : TX.toList.isEmpty = EB := hEB.symm
      clear hsv hbx hEB
      cases EB with
      | true =>
        go_wp2
        go_ret
        exact ⟨rfl, HE.out⟩
      | false =>
        go_wp2
        go_ret
        exact ⟨rfl, HE.out⟩
end Go.Proofs.YtpoibhhijidobaaGreatDoor
