/- What the law PatternBack answers at every input: the walk. -/
import Derived.Test.YtpoibhhijidobabGreatDoorAw15
import Derived.Test.YtpoibhhijidobabGreatDoorL15c
namespace Go.Proofs.YtpoibhhijidobabGreatDoor
open Go.ChangeShapes Go.WideShapes Go.ChangeAt Go.RowKit
set_option linter.unusedSimpArgs false
set_option linter.unusedVariables false

theorem psA_nil : psA [] = (zeP, 20) := by
  unfold psA
  rw [if_neg (by decide), if_pos (.inl (by decide))]
theorem text_none {p : Ptn} (h : wrB p = false) : txT p = [] := by
  unfold txT
  rw [h]
  rfl
theorem text_some {p : Ptn} (h : wrB p = true) : txT p ≠ [] := fun e => by
  have := text_back h
  rw [e, psA_nil] at this
  exact absurd (congrArg Prod.snd this) (show ¬ (20 : Int) = 0 by decide)
theorem text_len15 (p : Ptn) : (txT p).length ≤ maxLen := by
  by_cases h : wrB p = true
  · have := text_len h
    unfold maxLen
    omega
  · rw [text_none (by simpa using h)]
    exact Nat.zero_le _

set_option maxRecDepth 100000 in
set_option maxHeartbeats 8000000 in
theorem back_walk (p : Ptn) (vm : Value) (A : Array Value) (hA : A = (paC p vm).toArray) (s : List UInt8) (hnm : p.name.length ≤ maxLen) (hs : s.length ≤ maxLen) (w : World) (h : MsR w vm p) (hT : TkT w) :
    Calls Tryz.prog 3 #[.agg A, .string ⟨s.toArray⟩] w fun e w' => e = .returned (.bool true) ∧ Below w.heap.size w w' := by
  have HT : Hid (TkT w) := hT
  have HM : Hid (MsR w vm p) := h
  have HL : Hid (p.name.length ≤ maxLen) := hnm
  have HLs : Hid (s.length ≤ maxLen) := hs
  obtain ⟨n, hn⟩ : ∃ n : Nat, n = s.length := ⟨_, rfl⟩
  obtain ⟨SB, hSB⟩ : ∃ B : ByteArray, B = ⟨s.toArray⟩ := ⟨_, rfl⟩
  have hsz : SB.size = n := by rw [hSB, hn]; exact str_size s
  have HS : Hid (SB = ⟨s.toArray⟩) := hSB
  rw [← hn] at hs
  unfold maxLen at hs
  rw [← hSB]
  clear hT h hnm hSB hn
  go_enter Tryz.func3, Tryz.ntmps3
  go_wp2_with (refine wpList_box_blk rfl 25 _ rfl (paC p vm) (by rw [← hA]; rfl) ?_)
  intro w1 r1 b1 s1
  clear s1 hA
  go_wp2_with fail
  refine (awake_any _ (HT.out.kept b1)).mono ?_
  rintro e w2 ⟨rfl, b2⟩
  replace r1 := r1.kept b2
  have hbw := stepB b1 b2
  clear b1 b2
  go_wp2_with (refine wpList_load_part rfl 25 _ rfl rfl [] (paC p vm) [] r1 (whole15 _) rfl Tryz.underlying25 rfl (paInfo p _) ?_)
  refine (few_any p vm _ rfl HL.out _ (HM.out.kept hbw)).mono ?_
  rintro e w3 ⟨rfl, b3⟩
  replace r1 := r1.kept b3
  replace hbw := stepB hbw b3
  clear b3
  obtain ⟨f, hf⟩ : ∃ f : Bool, f = fwB p := ⟨_, rfl⟩
  rw [← hf]
  cases f with
  | false =>
    clear hf
    go_wp2
    go_ret
    exact ⟨rfl, hbw⟩
  | true =>
    have HF : Hid _ := fwB_n hf.symm
    clear hf
    by_cases hl : 4000 < n
    · have d1 : decide ((4000 : Int) < (n : Int)) = true := decide_eq_true (by omega)
      have d2 : (4000 : Int) < (n : Int) := by omega
      go_wp2
      go_ret
      exact ⟨rfl, hbw⟩
    · have d1 : decide ((4000 : Int) < (n : Int)) = false := decide_eq_false (by omega)
      have d2 : (n : Int) ≤ (4000 : Int) := by omega
      go_wp2_with (refine wpList_load_part rfl 25 _ rfl rfl [] (paC p vm) [] r1 (whole15 _) rfl Tryz.underlying25 rfl (paInfo p _) ?_)
      refine (text_any p vm _ rfl HL.out _ (HM.out.kept hbw) (HT.out.kept hbw)).mono ?_
      rintro e w4 ⟨rfl, b4⟩
      replace r1 := r1.kept b4
      replace hbw := stepB hbw b4
      clear b4 d1 d2 hl
      obtain ⟨TB, hTB⟩ : ∃ B : ByteArray, B = ⟨(txT p).toArray⟩ := ⟨_, rfl⟩
      have HTB : Hid (TB = ⟨(txT p).toArray⟩) := hTB
      have HTl : Hid (TB.toList = txT p) := by show _ = _; rw [hTB]; exact str_toList _
      rw [← hTB]
      clear hTB
      go_wp2_with fail
      rw [HTB.out]
      refine (parse_any (txT p) (text_len15 p) _ (HT.out.kept hbw)).mono ?_
      rw [← HTB.out, psQ_eq]
      have hcutin : ∃ q : Ptn, ∃ x : Int, psA (txT p) = (q, x) ∧ ((wrB p = true ∧ q = p ∧ x = 0 ∧ TB.toList.isEmpty = false) ∨ (q = zeP ∧ x = 20 ∧ TB.toList.isEmpty = true)) := by
        by_cases hw : wrB p = true
        · refine ⟨p, 0, text_back hw, .inl ⟨hw, rfl, rfl, ?_⟩⟩
          rw [HTl.out]
          have := text_some hw
          cases h : txT p with
          | nil => exact absurd h this
          | cons => rfl
        · have hw2 : wrB p = false := by simpa using hw
          refine ⟨zeP, 20, ?_, .inr ⟨rfl, rfl, ?_⟩⟩
          · rw [text_none hw2]
            exact psA_nil
          · rw [HTl.out, text_none hw2]
            rfl
      obtain ⟨q, x, hqx, hcase⟩ := hcutin
      rw [hqx]
      have HC : Hid ((wrB p = true ∧ q = p ∧ x = 0 ∧ TB.toList.isEmpty = false) ∨ (q = zeP ∧ x = 20 ∧ TB.toList.isEmpty = true)) := hcase
      clear hqx hcase
      rintro e w5 ⟨vq, rfl, hm, b5⟩
      dsimp only at hm ⊢
      replace r1 := r1.kept b5
      replace hbw := stepB hbw b5
      clear b5
      obtain ⟨am5, nm5, cm5, em⟩ : ∃ a n c, vq = .slice a n c := by obtain ⟨a, c, e, -⟩ := hm.form; exact ⟨a, _, c, e⟩
      have HV5 : Hid (vq = .slice am5 nm5 cm5) := em
      clear em
      go_wp2_with (refine wpList_alloc_blk rfl 25 rfl (paC zeP (.slice none 0 0)) (allocPa _) ?_)
      intro wa5 ra ba sa
      go_wp2_with (refine wpList_store_part rfl 25 _ _ rfl rfl (paC q vq) rfl [] (paC zeP (.slice none 0 0)) [] (paC q vq) ra (whole15 _) (whole15 _) rfl rfl (paInfo zeP (.slice none 0 0)) (by rw [HV5.out]; exact paC_all _ _ _ _) ?_)
      intro ws5 rs hws
      have bs := hws.below _ _ (Nat.le_refl _) ba
      have R5 : BlkAt w5.heap.size 25 (paC q vq) ws5 := rs
      have M5 : MsR ws5 vq q := hm.kept bs
      replace r1 := (r1.kept bs).drew
      replace hbw := (stepB hbw bs).drew
      replace R5 := R5.drew
      have HMp : Hid (MsR ws5.drew vm p) := HM.out.kept hbw
      have HMq : Hid (MsR ws5.drew vq q) := M5.kept (Below.refl _ _).drew
      clear ra ba sa rs hws bs M5 hm
      rcases HC.out with ⟨hw, hq, hx, hE⟩ | ⟨hq, hx, hE⟩
      · subst hx
        have HQ : Hid (q = p) := hq
        have HFq : Hid (q.n ≤ 20 ∧ ∀ k, (q.tk k).length ≤ 50) := by show _ ∧ _; rw [hq]; exact ⟨HF.out.1, HF.out.2.2⟩
        clear hq hw HC
        go_wp2_with fail
        refine wpG_begin (by kernel_rfl) ?_
        refine wpG_take (i := 0) (oi := { dst := some 33, op := Op.move (Operand.tmp 7), type := 9, pos := "law.go:178", after := #[], guard := none }) (v := ?_) rfl (by kernel_rfl) (by kernel_rfl) (by kernel_rfl) (by rfl) ?_ ?_
        rotate_left
        · intro W hW; first | (go_simp; done) | (go_simp; with_reducible rfl)
        try simp only [Act.put, List.setIfInBounds_toArray, List.set_cons_zero, List.set_cons_succ]
        refine wpG_take (i := 1) (oi := { dst := some 34, op := Op.binOp BinOp.eql 9 (Operand.tmp 33) (Operand.const (Value.string { data := #[] })) 9, type := 4, pos := "law.go:178", after := #[{ on := 0, ground := Ground.data }], guard := none }) (v := ?_) rfl (by kernel_rfl) (by kernel_rfl) (by kernel_rfl) (by rfl) ?_ ?_
        rotate_left
        · intro W hW; first | (go_simp; done) | (go_simp; with_reducible rfl)
        try simp only [Act.put, List.setIfInBounds_toArray, List.set_cons_zero, List.set_cons_succ]
        refine wpG_take (i := 2) (oi := { dst := some 35, op := Op.move (Operand.tmp 34), type := 4, pos := "law.go:178", after := #[{ on := 1, ground := Ground.data }], guard := none }) (v := ?_) rfl (by kernel_rfl) (by kernel_rfl) (by kernel_rfl) (by rfl) ?_ ?_
        rotate_left
        · intro W hW; first | (go_simp; done) | (go_simp; with_reducible rfl)
        try simp only [Act.put, List.setIfInBounds_toArray, List.set_cons_zero, List.set_cons_succ]
        refine wpG_skip (i := 3) (oi := { dst := some 36, op := Op.move (Operand.tmp 9), type := 29, pos := "law.go:178", after := #[{ on := 2, ground := Ground.guard }], guard := some (2, true) }) rfl (by kernel_rfl) (by kernel_rfl) (by kernel_rfl) (by rfl) ?_
        try simp only [Act.put, List.setIfInBounds_toArray, List.set_cons_zero, List.set_cons_succ]
        refine wpG_skip (i := 4) (oi := { dst := some 37, op := Op.binOp BinOp.eql 29 (Operand.tmp 36) (Operand.const (Value.int IntKind.i64 0)) 29, type := 4, pos := "law.go:178", after := #[{ on := 3, ground := Ground.data }, { on := 2, ground := Ground.guard }], guard := some (2, true) }) rfl (by kernel_rfl) (by kernel_rfl) (by kernel_rfl) (by rfl) ?_
        try simp only [Act.put, List.setIfInBounds_toArray, List.set_cons_zero, List.set_cons_succ]
        refine wpG_take (i := 5) (oi := { dst := some 38, op := Op.pick (Operand.tmp 35) (Operand.tmp 37) (Operand.const (Value.bool false)), type := 4, pos := "law.go:178", after := #[{ on := 2, ground := Ground.data }, { on := 4, ground := Ground.data }], guard := none }) (v := ?_) rfl (by kernel_rfl) (by kernel_rfl) (by kernel_rfl) (by rfl) ?_ ?_
        rotate_left
        · intro W hW; first | (go_simp; done) | (go_simp; with_reducible rfl)
        try simp only [Act.put, List.setIfInBounds_toArray, List.set_cons_zero, List.set_cons_succ]
        refine wpG_take (i := 6) (oi := { dst := some 39, op := Op.move (Operand.tmp 38), type := 4, pos := "law.go:178", after := #[{ on := 5, ground := Ground.data }, { on := 2, ground := Ground.chain }], guard := none }) (v := ?_) rfl (by kernel_rfl) (by kernel_rfl) (by kernel_rfl) (by rfl) ?_ ?_
        rotate_left
        · intro W hW; first | (go_simp; done) | (go_simp; with_reducible rfl)
        try simp only [Act.put, List.setIfInBounds_toArray, List.set_cons_zero, List.set_cons_succ]
        refine wpG_take (i := 7) (oi := { dst := some 40, op := Op.move (Operand.tmp 7), type := 9, pos := "law.go:178", after := #[{ on := 6, ground := Ground.guard }], guard := some (6, false) }) (v := ?_) rfl (by kernel_rfl) (by kernel_rfl) (by kernel_rfl) (by rfl) ?_ ?_
        rotate_left
        · intro W hW; first | (go_simp; done) | (go_simp; with_reducible rfl)
        try simp only [Act.put, List.setIfInBounds_toArray, List.set_cons_zero, List.set_cons_succ]
        refine wpG_take (i := 8) (oi := { dst := some 41, op := Op.binOp BinOp.neq 9 (Operand.tmp 40) (Operand.const (Value.string { data := #[] })) 9, type := 4, pos := "law.go:178", after := #[{ on := 7, ground := Ground.data }, { on := 6, ground := Ground.guard }], guard := some (6, false) }) (v := ?_) rfl (by kernel_rfl) (by kernel_rfl) (by kernel_rfl) (by rfl) ?_ ?_
        rotate_left
        · intro W hW; first | (go_simp; done) | (go_simp; with_reducible rfl)
        try simp only [Act.put, List.setIfInBounds_toArray, List.set_cons_zero, List.set_cons_succ]
        refine wpG_take (i := 9) (oi := { dst := some 42, op := Op.move (Operand.tmp 41), type := 4, pos := "law.go:178", after := #[{ on := 8, ground := Ground.data }, { on := 6, ground := Ground.chain }, { on := 6, ground := Ground.guard }], guard := some (6, false) }) (v := ?_) rfl (by kernel_rfl) (by kernel_rfl) (by kernel_rfl) (by rfl) ?_ ?_
        rotate_left
        · intro W hW; first | (go_simp; done) | (go_simp; with_reducible rfl)
        try simp only [Act.put, List.setIfInBounds_toArray, List.set_cons_zero, List.set_cons_succ]
        refine wpG_take (i := 10) (oi := { dst := some 43, op := Op.move (Operand.tmp 9), type := 29, pos := "law.go:178", after := #[{ on := 9, ground := Ground.guard }], guard := some (9, true) }) (v := ?_) rfl (by kernel_rfl) (by kernel_rfl) (by kernel_rfl) (by rfl) ?_ ?_
        rotate_left
        · intro W hW; first | (go_simp; done) | (go_simp; with_reducible rfl)
        try simp only [Act.put, List.setIfInBounds_toArray, List.set_cons_zero, List.set_cons_succ]
        refine wpG_take (i := 11) (oi := { dst := some 44, op := Op.binOp BinOp.neq 29 (Operand.tmp 43) (Operand.const (Value.int IntKind.i64 0)) 29, type := 4, pos := "law.go:178", after := #[{ on := 10, ground := Ground.data }, { on := 9, ground := Ground.guard }], guard := some (9, true) }) (v := ?_) rfl (by kernel_rfl) (by kernel_rfl) (by kernel_rfl) (by rfl) ?_ ?_
        rotate_left
        · intro W hW; first | (go_simp; done) | (go_simp; with_reducible rfl)
        try simp only [Act.put, List.setIfInBounds_toArray, List.set_cons_zero, List.set_cons_succ]
        refine wpG_take (i := 12) (oi := { dst := some 45, op := Op.move (Operand.tmp 44), type := 4, pos := "law.go:178", after := #[{ on := 11, ground := Ground.data }, { on := 9, ground := Ground.chain }, { on := 9, ground := Ground.guard }], guard := some (9, true) }) (v := ?_) rfl (by kernel_rfl) (by kernel_rfl) (by kernel_rfl) (by rfl) ?_ ?_
        rotate_left
        · intro W hW; first | (go_simp; done) | (go_simp; with_reducible rfl)
        try simp only [Act.put, List.setIfInBounds_toArray, List.set_cons_zero, List.set_cons_succ]
        refine wpG_take (i := 13) (oi := { dst := some 46, op := Op.load 25 (Operand.tmp 8), type := 25, pos := "law.go:178", after := #[{ on := 12, ground := Ground.guard }], guard := some (12, false) }) (v := ?_) rfl (by kernel_rfl) (by kernel_rfl) (by kernel_rfl) (by rfl) ?_ ?_
        rotate_left
        · intro W hW; refine Eq.trans (exec_load_part 25 _ (by rfl) (by rfl) [] (paC q vq) [] R5 hW (whole15 _) rfl Tryz.underlying25 rfl (paInfo q _)) ?_; with_reducible rfl
        try simp only [Act.put, List.setIfInBounds_toArray, List.set_cons_zero, List.set_cons_succ]
        refine wpG_take (i := 15) (oi := { dst := some 48, op := Op.load 25 (Operand.tmp 2), type := 25, pos := "law.go:178", after := #[{ on := 12, ground := Ground.guard }], guard := some (12, false) }) (v := ?_) rfl (by kernel_rfl) (by kernel_rfl) (by kernel_rfl) (by rfl) ?_ ?_
        rotate_left
        · intro W hW; refine Eq.trans (exec_load_part 25 _ (by rfl) (by rfl) [] (paC p vm) [] r1 hW (whole15 _) rfl Tryz.underlying25 rfl (paInfo p _)) ?_; with_reducible rfl
        try simp only [Act.put, List.setIfInBounds_toArray, List.set_cons_zero, List.set_cons_succ]
        refine wpG_do (i := 14) (o := { dst := some 47, op := Op.call { callee := Callee.value (Operand.func 12), args := #[Operand.tmp 46], argTypes := #[25] }, type := 36, pos := "law.go:178", after := #[{ on := 13, ground := Ground.data }, { on := 12, ground := Ground.chain }, { on := 12, ground := Ground.guard }], guard := some (12, false) }) (by kernel_rfl) rfl (by rfl) fun K hK => ?_
        go_simp
        refine (model_any q vq _ rfl (Nat.le_trans HFq.out.1 (by decide)) (fun k => Nat.le_trans (HFq.out.2 k) (by decide)) _ HMq.out).mono ?_
        rintro e wb1 ⟨ui, ul, rfl, hU, bb1⟩
        refine hK.out _ _ bb1 ?_
        clear hK K
        try simp only [Act.put, List.setIfInBounds_toArray, List.set_cons_zero, List.set_cons_succ]
        refine wpG_do (i := 16) (o := { dst := some 49, op := Op.call { callee := Callee.value (Operand.func 12), args := #[Operand.tmp 48], argTypes := #[25] }, type := 36, pos := "law.go:178", after := #[{ on := 15, ground := Ground.data }, { on := 14, ground := Ground.chain }, { on := 12, ground := Ground.guard }], guard := some (12, false) }) (by kernel_rfl) rfl (by rfl) fun K hK => ?_
        go_simp
        refine (model_any p vm _ rfl (Nat.le_trans HF.out.1 (by decide)) (fun k => Nat.le_trans (HF.out.2.2 k) (by decide)) _ (HMp.out.kept bb1)).mono ?_
        rintro e wb2 ⟨ti, tl, rfl, hV, bb2⟩
        refine hK.out _ _ bb2 ?_
        clear hK K
        try simp only [Act.put, List.setIfInBounds_toArray, List.set_cons_zero, List.set_cons_succ]
        refine wpG_do (i := 17) (o := { dst := some 50, op := Op.call { callee := Callee.value (Operand.func 11), args := #[Operand.tmp 47, Operand.tmp 49], argTypes := #[36, 36] }, type := 4, pos := "law.go:178", after := #[{ on := 14, ground := Ground.data }, { on := 16, ground := Ground.data }, { on := 16, ground := Ground.chain }, { on := 12, ground := Ground.guard }], guard := some (12, false) }) (by kernel_rfl) rfl (by rfl) fun K hK => ?_
        go_simp
        refine (sameP_any p ui ul ti tl _ _ (by rw [HQ.out]) rfl _ (HQ.out ▸ hU.kept bb2) hV).mono ?_
        rintro e wb3 ⟨rfl, bb3⟩
        refine hK.out _ _ bb3 ?_
        clear hK K
        try simp only [Act.put, List.setIfInBounds_toArray, List.set_cons_zero, List.set_cons_succ]
        refine wpG_take (i := 18) (oi := { dst := some 51, op := Op.unOp UnOp.not 4 (Operand.tmp 50), type := 4, pos := "law.go:178", after := #[{ on := 17, ground := Ground.data }, { on := 12, ground := Ground.guard }], guard := some (12, false) }) (v := ?_) rfl (by kernel_rfl) (by kernel_rfl) (by kernel_rfl) (by rfl) ?_ ?_
        rotate_left
        · intro W hW; first | (go_simp; done) | (go_simp; with_reducible rfl)
        try simp only [Act.put, List.setIfInBounds_toArray, List.set_cons_zero, List.set_cons_succ]
        refine wpG_take (i := 19) (oi := { dst := some 52, op := Op.pick (Operand.tmp 45) (Operand.const (Value.bool true)) (Operand.tmp 51), type := 4, pos := "law.go:178", after := #[{ on := 12, ground := Ground.data }, { on := 18, ground := Ground.data }, { on := 9, ground := Ground.guard }], guard := some (9, true) }) (v := ?_) rfl (by kernel_rfl) (by kernel_rfl) (by kernel_rfl) (by rfl) ?_ ?_
        rotate_left
        · intro W hW; first | (go_simp; done) | (go_simp; with_reducible rfl)
        try simp only [Act.put, List.setIfInBounds_toArray, List.set_cons_zero, List.set_cons_succ]
        refine wpG_take (i := 20) (oi := { dst := some 53, op := Op.pick (Operand.tmp 42) (Operand.tmp 52) (Operand.const (Value.bool false)), type := 4, pos := "law.go:178", after := #[{ on := 9, ground := Ground.data }, { on := 19, ground := Ground.data }, { on := 6, ground := Ground.guard }], guard := some (6, false) }) (v := ?_) rfl (by kernel_rfl) (by kernel_rfl) (by kernel_rfl) (by rfl) ?_ ?_
        rotate_left
        · intro W hW; first | (go_simp; done) | (go_simp; with_reducible rfl)
        try simp only [Act.put, List.setIfInBounds_toArray, List.set_cons_zero, List.set_cons_succ]
        refine wpG_take (i := 21) (oi := { dst := some 54, op := Op.pick (Operand.tmp 39) (Operand.const (Value.bool true)) (Operand.tmp 53), type := 4, pos := "law.go:178", after := #[{ on := 6, ground := Ground.data }, { on := 20, ground := Ground.data }], guard := none }) (v := ?_) rfl (by kernel_rfl) (by kernel_rfl) (by kernel_rfl) (by rfl) ?_ ?_
        rotate_left
        · intro W hW; first | (go_simp; done) | (go_simp; with_reducible rfl)
        try simp only [Act.put, List.setIfInBounds_toArray, List.set_cons_zero, List.set_cons_succ]
        refine wpG_done (by kernel_rfl) ?_
        replace hbw := stepB hbw (stepB bb1 (stepB bb2 bb3))
        clear hU hV bb1 bb2 bb3 HMp HMq r1 R5 hE
        go_wp2_with fail
        rw [HS.out]
        refine (parse_any s HLs.out _ (HT.out.kept hbw)).mono ?_
        rw [← HS.out]
        have HSm : Hid _ := ps_small s
        rw [psQ_eq] at HSm ⊢
        have HWr : Hid _ := psA_wr s
        obtain ⟨pe, hpe⟩ : ∃ x : Ptn × Int, x = psA s := ⟨_, rfl⟩
        rw [← hpe] at HSm HWr ⊢
        clear hpe
        obtain ⟨y, g⟩ := pe
        dsimp only at HSm HWr ⊢
        rintro e wv6 ⟨vy, rfl, hm, b6⟩
        replace hbw := stepB hbw b6
        clear b6
        obtain ⟨am6, nm6, cm6, em⟩ : ∃ a n c, vy = .slice a n c := by obtain ⟨a, c, e, -⟩ := hm.form; exact ⟨a, _, c, e⟩
        have HV6 : Hid (vy = .slice am6 nm6 cm6) := em
        clear em
        go_wp2_with (refine wpList_alloc_blk rfl 25 rfl (paC zeP (.slice none 0 0)) (allocPa _) ?_)
        intro wa6 ra ba sa
        go_wp2_with (refine wpList_store_part rfl 25 _ _ rfl rfl (paC y vy) rfl [] (paC zeP (.slice none 0 0)) [] (paC y vy) ra (whole15 _) (whole15 _) rfl rfl (paInfo zeP (.slice none 0 0)) (by rw [HV6.out]; exact paC_all _ _ _ _) ?_)
        intro ws6 rs hws
        have bs := hws.below _ _ (Nat.le_refl _) ba
        have R6 : BlkAt wv6.heap.size 25 (paC y vy) ws6 := rs
        have M6 : MsR ws6 vy y := hm.kept bs
        replace hbw := stepB hbw bs
        clear ra ba sa rs hws bs hm
        rcases HWr.out with ⟨hg, hwy⟩ | ⟨hg, hy⟩
        · have HWy : Hid (wrB y = true) := hwy
          subst hg
          clear hwy HWr
          go_wp2_with (refine wpList_load_part rfl 25 _ rfl rfl [] (paC y vy) [] R6 (whole15 _) rfl Tryz.underlying25 rfl (paInfo y _) ?_)
          refine (text_any y vy _ rfl (by have := HSm.out.1; unfold maxLen; omega) _ M6 (HT.out.kept hbw)).mono ?_
          rintro e w7 ⟨rfl, b7⟩
          replace R6 := R6.kept b7
          replace M6 := M6.kept b7
          replace hbw := stepB hbw b7
          clear b7
          obtain ⟨YB, hYB⟩ : ∃ B : ByteArray, B = ⟨(txT y).toArray⟩ := ⟨_, rfl⟩
          have HYB : Hid (YB = ⟨(txT y).toArray⟩) := hYB
          rw [← hYB]
          clear hYB
          go_wp2_with fail
          rw [HYB.out]
          refine (parse_any (txT y) (text_len15 y) _ (HT.out.kept hbw)).mono ?_
          rw [← HYB.out, psQ_eq, text_back HWy.out]
          rintro e w8 ⟨vz, rfl, hm, b8⟩
          dsimp only at hm ⊢
          replace R6 := R6.kept b8
          replace M6 := M6.kept b8
          replace hbw := stepB hbw b8
          clear b8
          obtain ⟨am8, nm8, cm8, em⟩ : ∃ a n c, vz = .slice a n c := by obtain ⟨a, c, e, -⟩ := hm.form; exact ⟨a, _, c, e⟩
          have HV8 : Hid (vz = .slice am8 nm8 cm8) := em
          clear em
          go_wp2_with (refine wpList_alloc_blk rfl 25 rfl (paC zeP (.slice none 0 0)) (allocPa _) ?_)
          intro wa8 ra ba sa
          go_wp2_with (refine wpList_store_part rfl 25 _ _ rfl rfl (paC y vz) rfl [] (paC zeP (.slice none 0 0)) [] (paC y vz) ra (whole15 _) (whole15 _) rfl rfl (paInfo zeP (.slice none 0 0)) (by rw [HV8.out]; exact paC_all _ _ _ _) ?_)
          intro ws8 rs hws
          have bs := hws.below _ _ (Nat.le_refl _) ba
          have R8 : BlkAt w8.heap.size 25 (paC y vz) ws8 := rs
          have M8 : MsR ws8 vz y := hm.kept bs
          have rd8 := R8.drew
          have rd6 := (R6.kept bs).drew
          have HMy : Hid (MsR ws8.drew vy y) := M6.kept bs.drew
          have HMz : Hid (MsR ws8.drew vz y) := M8.kept (Below.refl _ _).drew
          replace hbw := (stepB hbw bs).drew
          clear ra ba sa rs hws bs hm R8 R6 M6 M8
          go_wp2_with fail
          refine wpG_begin (by kernel_rfl) ?_
          refine wpG_take (i := 0) (oi := { dst := some 71, op := Op.move (Operand.tmp 13), type := 29, pos := "law.go:186", after := #[], guard := none }) (v := ?_) rfl (by kernel_rfl) (by kernel_rfl) (by kernel_rfl) (by rfl) ?_ ?_
          rotate_left
          · intro W hW; first | (go_simp; done) | (go_simp; with_reducible rfl)
          try simp only [Act.put, List.setIfInBounds_toArray, List.set_cons_zero, List.set_cons_succ]
          refine wpG_take (i := 1) (oi := { dst := some 72, op := Op.binOp BinOp.eql 29 (Operand.tmp 71) (Operand.const (Value.int IntKind.i64 0)) 29, type := 4, pos := "law.go:186", after := #[{ on := 0, ground := Ground.data }], guard := none }) (v := ?_) rfl (by kernel_rfl) (by kernel_rfl) (by kernel_rfl) (by rfl) ?_ ?_
          rotate_left
          · intro W hW; first | (go_simp; done) | (go_simp; with_reducible rfl)
          try simp only [Act.put, List.setIfInBounds_toArray, List.set_cons_zero, List.set_cons_succ]
          refine wpG_take (i := 2) (oi := { dst := some 73, op := Op.move (Operand.tmp 72), type := 4, pos := "law.go:186", after := #[{ on := 1, ground := Ground.data }], guard := none }) (v := ?_) rfl (by kernel_rfl) (by kernel_rfl) (by kernel_rfl) (by rfl) ?_ ?_
          rotate_left
          · intro W hW; first | (go_simp; done) | (go_simp; with_reducible rfl)
          try simp only [Act.put, List.setIfInBounds_toArray, List.set_cons_zero, List.set_cons_succ]
          refine wpG_take (i := 3) (oi := { dst := some 74, op := Op.load 25 (Operand.tmp 12), type := 25, pos := "law.go:186", after := #[{ on := 2, ground := Ground.guard }], guard := some (2, true) }) (v := ?_) rfl (by kernel_rfl) (by kernel_rfl) (by kernel_rfl) (by rfl) ?_ ?_
          rotate_left
          · intro W hW; refine Eq.trans (exec_load_part 25 _ (by rfl) (by rfl) [] (paC y vz) [] rd8 hW (whole15 _) rfl Tryz.underlying25 rfl (paInfo y _)) ?_; with_reducible rfl
          try simp only [Act.put, List.setIfInBounds_toArray, List.set_cons_zero, List.set_cons_succ]
          refine wpG_take (i := 5) (oi := { dst := some 76, op := Op.load 25 (Operand.tmp 10), type := 25, pos := "law.go:186", after := #[{ on := 2, ground := Ground.guard }], guard := some (2, true) }) (v := ?_) rfl (by kernel_rfl) (by kernel_rfl) (by kernel_rfl) (by rfl) ?_ ?_
          rotate_left
          · intro W hW; refine Eq.trans (exec_load_part 25 _ (by rfl) (by rfl) [] (paC y vy) [] rd6 hW (whole15 _) rfl Tryz.underlying25 rfl (paInfo y _)) ?_; with_reducible rfl
          try simp only [Act.put, List.setIfInBounds_toArray, List.set_cons_zero, List.set_cons_succ]
          refine wpG_do (i := 4) (o := { dst := some 75, op := Op.call { callee := Callee.value (Operand.func 12), args := #[Operand.tmp 74], argTypes := #[25] }, type := 36, pos := "law.go:186", after := #[{ on := 3, ground := Ground.data }, { on := 2, ground := Ground.chain }, { on := 2, ground := Ground.guard }], guard := some (2, true) }) (by kernel_rfl) rfl (by rfl) fun K hK => ?_
          go_simp
          refine (model_any y vz _ rfl (Nat.le_trans HSm.out.2.1 (by decide)) (fun k => Nat.le_trans (HSm.out.2.2 k) (by decide)) _ HMz.out).mono ?_
          rintro e w9 ⟨ui, ul, rfl, hU, b9⟩
          refine hK.out _ _ b9 ?_
          clear hK K
          try simp only [Act.put, List.setIfInBounds_toArray, List.set_cons_zero, List.set_cons_succ]
          refine wpG_do (i := 6) (o := { dst := some 77, op := Op.call { callee := Callee.value (Operand.func 12), args := #[Operand.tmp 76], argTypes := #[25] }, type := 36, pos := "law.go:186", after := #[{ on := 5, ground := Ground.data }, { on := 4, ground := Ground.chain }, { on := 2, ground := Ground.guard }], guard := some (2, true) }) (by kernel_rfl) rfl (by rfl) fun K hK => ?_
          go_simp
          refine (model_any y vy _ rfl (Nat.le_trans HSm.out.2.1 (by decide)) (fun k => Nat.le_trans (HSm.out.2.2 k) (by decide)) _ (HMy.out.kept b9)).mono ?_
          rintro e w10 ⟨ti, tl, rfl, hV, b10⟩
          refine hK.out _ _ b10 ?_
          clear hK K
          try simp only [Act.put, List.setIfInBounds_toArray, List.set_cons_zero, List.set_cons_succ]
          refine wpG_do (i := 7) (o := { dst := some 78, op := Op.call { callee := Callee.value (Operand.func 11), args := #[Operand.tmp 75, Operand.tmp 77], argTypes := #[36, 36] }, type := 4, pos := "law.go:186", after := #[{ on := 4, ground := Ground.data }, { on := 6, ground := Ground.data }, { on := 6, ground := Ground.chain }, { on := 2, ground := Ground.guard }], guard := some (2, true) }) (by kernel_rfl) rfl (by rfl) fun K hK => ?_
          go_simp
          refine (sameP_any y ui ul ti tl _ _ rfl rfl _ (hU.kept b10) hV).mono ?_
          rintro e w11 ⟨rfl, b11⟩
          refine hK.out _ _ b11 ?_
          clear hK K
          try simp only [Act.put, List.setIfInBounds_toArray, List.set_cons_zero, List.set_cons_succ]
          refine wpG_take (i := 8) (oi := { dst := some 79, op := Op.pick (Operand.tmp 73) (Operand.tmp 78) (Operand.const (Value.bool false)), type := 4, pos := "law.go:186", after := #[{ on := 2, ground := Ground.data }, { on := 7, ground := Ground.data }], guard := none }) (v := ?_) rfl (by kernel_rfl) (by kernel_rfl) (by kernel_rfl) (by rfl) ?_ ?_
          rotate_left
          · intro W hW; first | (go_simp; done) | (go_simp; with_reducible rfl)
          try simp only [Act.put, List.setIfInBounds_toArray, List.set_cons_zero, List.set_cons_succ]
          refine wpG_take (i := 9) (oi := { dst := some 4, op := Op.assign (Operand.tmp 79), type := 4, pos := "law.go:186", after := #[{ on := 8, ground := Ground.data }, { on := 7, ground := Ground.chain }, { on := 0, ground := Ground.phase }, { on := 1, ground := Ground.phase }, { on := 2, ground := Ground.phase }, { on := 3, ground := Ground.phase }, { on := 4, ground := Ground.phase }, { on := 5, ground := Ground.phase }, { on := 6, ground := Ground.phase }, { on := 7, ground := Ground.phase }, { on := 8, ground := Ground.phase }], guard := none }) (v := ?_) rfl (by kernel_rfl) (by kernel_rfl) (by kernel_rfl) (by rfl) ?_ ?_
          rotate_left
          · intro W hW; first | (go_simp; done) | (go_simp; with_reducible rfl)
          try simp only [Act.put, List.setIfInBounds_toArray, List.set_cons_zero, List.set_cons_succ]
          refine wpG_done (by kernel_rfl) ?_
          have b12 := stepB hbw (stepB b9 (stepB b10 b11))
          go_wp2
          go_ret
          exact ⟨rfl, b12⟩
        · have HY : Hid (y = zeP) := hy
          have g1 : (g == 0) = false := by simpa using hg
          have g2 : (g != 0) = true := by simpa using hg
          have HYt : Hid (txT y = []) := by show _ = _; rw [hy]; exact zeP_text
          clear hy HWr
          go_wp2_with (refine wpList_load_part rfl 25 _ rfl rfl [] (paC y vy) [] R6 (whole15 _) rfl Tryz.underlying25 rfl (paInfo y _) ?_)
          refine (text_any y vy _ rfl (by have := HSm.out.1; unfold maxLen; omega) _ M6 (HT.out.kept hbw)).mono ?_
          rw [HYt.out]
          rintro e w7 ⟨rfl, b7⟩
          replace hbw := stepB hbw b7
          clear b7 R6 M6
          go_wp2
          go_ret
          exact ⟨rfl, hbw⟩
      · subst hx
        clear hq HC
        go_wp2_with fail
        refine wpG_begin (by kernel_rfl) ?_
        refine wpG_take (i := 0) (oi := { dst := some 33, op := Op.move (Operand.tmp 7), type := 9, pos := "law.go:178", after := #[], guard := none }) (v := ?_) rfl (by kernel_rfl) (by kernel_rfl) (by kernel_rfl) (by rfl) ?_ ?_
        rotate_left
        · intro W hW; first | (go_simp; done) | (go_simp; with_reducible rfl)
        try simp only [Act.put, List.setIfInBounds_toArray, List.set_cons_zero, List.set_cons_succ]
        refine wpG_take (i := 1) (oi := { dst := some 34, op := Op.binOp BinOp.eql 9 (Operand.tmp 33) (Operand.const (Value.string { data := #[] })) 9, type := 4, pos := "law.go:178", after := #[{ on := 0, ground := Ground.data }], guard := none }) (v := ?_) rfl (by kernel_rfl) (by kernel_rfl) (by kernel_rfl) (by rfl) ?_ ?_
        rotate_left
        · intro W hW; first | (go_simp; done) | (go_simp; with_reducible rfl)
        try simp only [Act.put, List.setIfInBounds_toArray, List.set_cons_zero, List.set_cons_succ]
        refine wpG_take (i := 2) (oi := { dst := some 35, op := Op.move (Operand.tmp 34), type := 4, pos := "law.go:178", after := #[{ on := 1, ground := Ground.data }], guard := none }) (v := ?_) rfl (by kernel_rfl) (by kernel_rfl) (by kernel_rfl) (by rfl) ?_ ?_
        rotate_left
        · intro W hW; first | (go_simp; done) | (go_simp; with_reducible rfl)
        try simp only [Act.put, List.setIfInBounds_toArray, List.set_cons_zero, List.set_cons_succ]
        refine wpG_take (i := 3) (oi := { dst := some 36, op := Op.move (Operand.tmp 9), type := 29, pos := "law.go:178", after := #[{ on := 2, ground := Ground.guard }], guard := some (2, true) }) (v := ?_) rfl (by kernel_rfl) (by kernel_rfl) (by kernel_rfl) (by rfl) ?_ ?_
        rotate_left
        · intro W hW; first | (go_simp; done) | (go_simp; with_reducible rfl)
        try simp only [Act.put, List.setIfInBounds_toArray, List.set_cons_zero, List.set_cons_succ]
        refine wpG_take (i := 4) (oi := { dst := some 37, op := Op.binOp BinOp.eql 29 (Operand.tmp 36) (Operand.const (Value.int IntKind.i64 0)) 29, type := 4, pos := "law.go:178", after := #[{ on := 3, ground := Ground.data }, { on := 2, ground := Ground.guard }], guard := some (2, true) }) (v := ?_) rfl (by kernel_rfl) (by kernel_rfl) (by kernel_rfl) (by rfl) ?_ ?_
        rotate_left
        · intro W hW; first | (go_simp; done) | (go_simp; with_reducible rfl)
        try simp only [Act.put, List.setIfInBounds_toArray, List.set_cons_zero, List.set_cons_succ]
        refine wpG_take (i := 5) (oi := { dst := some 38, op := Op.pick (Operand.tmp 35) (Operand.tmp 37) (Operand.const (Value.bool false)), type := 4, pos := "law.go:178", after := #[{ on := 2, ground := Ground.data }, { on := 4, ground := Ground.data }], guard := none }) (v := ?_) rfl (by kernel_rfl) (by kernel_rfl) (by kernel_rfl) (by rfl) ?_ ?_
        rotate_left
        · intro W hW; first | (go_simp; done) | (go_simp; with_reducible rfl)
        try simp only [Act.put, List.setIfInBounds_toArray, List.set_cons_zero, List.set_cons_succ]
        refine wpG_take (i := 6) (oi := { dst := some 39, op := Op.move (Operand.tmp 38), type := 4, pos := "law.go:178", after := #[{ on := 5, ground := Ground.data }, { on := 2, ground := Ground.chain }], guard := none }) (v := ?_) rfl (by kernel_rfl) (by kernel_rfl) (by kernel_rfl) (by rfl) ?_ ?_
        rotate_left
        · intro W hW; first | (go_simp; done) | (go_simp; with_reducible rfl)
        try simp only [Act.put, List.setIfInBounds_toArray, List.set_cons_zero, List.set_cons_succ]
        refine wpG_take (i := 7) (oi := { dst := some 40, op := Op.move (Operand.tmp 7), type := 9, pos := "law.go:178", after := #[{ on := 6, ground := Ground.guard }], guard := some (6, false) }) (v := ?_) rfl (by kernel_rfl) (by kernel_rfl) (by kernel_rfl) (by rfl) ?_ ?_
        rotate_left
        · intro W hW; first | (go_simp; done) | (go_simp; with_reducible rfl)
        try simp only [Act.put, List.setIfInBounds_toArray, List.set_cons_zero, List.set_cons_succ]
        refine wpG_take (i := 8) (oi := { dst := some 41, op := Op.binOp BinOp.neq 9 (Operand.tmp 40) (Operand.const (Value.string { data := #[] })) 9, type := 4, pos := "law.go:178", after := #[{ on := 7, ground := Ground.data }, { on := 6, ground := Ground.guard }], guard := some (6, false) }) (v := ?_) rfl (by kernel_rfl) (by kernel_rfl) (by kernel_rfl) (by rfl) ?_ ?_
        rotate_left
        · intro W hW; first | (go_simp; done) | (go_simp; with_reducible rfl)
        try simp only [Act.put, List.setIfInBounds_toArray, List.set_cons_zero, List.set_cons_succ]
        refine wpG_take (i := 9) (oi := { dst := some 42, op := Op.move (Operand.tmp 41), type := 4, pos := "law.go:178", after := #[{ on := 8, ground := Ground.data }, { on := 6, ground := Ground.chain }, { on := 6, ground := Ground.guard }], guard := some (6, false) }) (v := ?_) rfl (by kernel_rfl) (by kernel_rfl) (by kernel_rfl) (by rfl) ?_ ?_
        rotate_left
        · intro W hW; first | (go_simp; done) | (go_simp; with_reducible rfl)
        try simp only [Act.put, List.setIfInBounds_toArray, List.set_cons_zero, List.set_cons_succ]
        refine wpG_skip (i := 10) (oi := { dst := some 43, op := Op.move (Operand.tmp 9), type := 29, pos := "law.go:178", after := #[{ on := 9, ground := Ground.guard }], guard := some (9, true) }) rfl (by kernel_rfl) (by kernel_rfl) (by kernel_rfl) (by rfl) ?_
        try simp only [Act.put, List.setIfInBounds_toArray, List.set_cons_zero, List.set_cons_succ]
        refine wpG_skip (i := 11) (oi := { dst := some 44, op := Op.binOp BinOp.neq 29 (Operand.tmp 43) (Operand.const (Value.int IntKind.i64 0)) 29, type := 4, pos := "law.go:178", after := #[{ on := 10, ground := Ground.data }, { on := 9, ground := Ground.guard }], guard := some (9, true) }) rfl (by kernel_rfl) (by kernel_rfl) (by kernel_rfl) (by rfl) ?_
        try simp only [Act.put, List.setIfInBounds_toArray, List.set_cons_zero, List.set_cons_succ]
        refine wpG_skip (i := 12) (oi := { dst := some 45, op := Op.move (Operand.tmp 44), type := 4, pos := "law.go:178", after := #[{ on := 11, ground := Ground.data }, { on := 9, ground := Ground.chain }, { on := 9, ground := Ground.guard }], guard := some (9, true) }) rfl (by kernel_rfl) (by kernel_rfl) (by kernel_rfl) (by rfl) ?_
        try simp only [Act.put, List.setIfInBounds_toArray, List.set_cons_zero, List.set_cons_succ]
        refine wpG_skip (i := 13) (oi := { dst := some 46, op := Op.load 25 (Operand.tmp 8), type := 25, pos := "law.go:178", after := #[{ on := 12, ground := Ground.guard }], guard := some (12, false) }) rfl (by kernel_rfl) (by kernel_rfl) (by kernel_rfl) (by rfl) ?_
        try simp only [Act.put, List.setIfInBounds_toArray, List.set_cons_zero, List.set_cons_succ]
        refine wpG_skip (i := 14) (oi := { dst := some 47, op := Op.call { callee := Callee.value (Operand.func 12), args := #[Operand.tmp 46], argTypes := #[25] }, type := 36, pos := "law.go:178", after := #[{ on := 13, ground := Ground.data }, { on := 12, ground := Ground.chain }, { on := 12, ground := Ground.guard }], guard := some (12, false) }) rfl (by kernel_rfl) (by kernel_rfl) (by kernel_rfl) (by rfl) ?_
        try simp only [Act.put, List.setIfInBounds_toArray, List.set_cons_zero, List.set_cons_succ]
        refine wpG_skip (i := 15) (oi := { dst := some 48, op := Op.load 25 (Operand.tmp 2), type := 25, pos := "law.go:178", after := #[{ on := 12, ground := Ground.guard }], guard := some (12, false) }) rfl (by kernel_rfl) (by kernel_rfl) (by kernel_rfl) (by rfl) ?_
        try simp only [Act.put, List.setIfInBounds_toArray, List.set_cons_zero, List.set_cons_succ]
        refine wpG_skip (i := 16) (oi := { dst := some 49, op := Op.call { callee := Callee.value (Operand.func 12), args := #[Operand.tmp 48], argTypes := #[25] }, type := 36, pos := "law.go:178", after := #[{ on := 15, ground := Ground.data }, { on := 14, ground := Ground.chain }, { on := 12, ground := Ground.guard }], guard := some (12, false) }) rfl (by kernel_rfl) (by kernel_rfl) (by kernel_rfl) (by rfl) ?_
        try simp only [Act.put, List.setIfInBounds_toArray, List.set_cons_zero, List.set_cons_succ]
        refine wpG_skip (i := 17) (oi := { dst := some 50, op := Op.call { callee := Callee.value (Operand.func 11), args := #[Operand.tmp 47, Operand.tmp 49], argTypes := #[36, 36] }, type := 4, pos := "law.go:178", after := #[{ on := 14, ground := Ground.data }, { on := 16, ground := Ground.data }, { on := 16, ground := Ground.chain }, { on := 12, ground := Ground.guard }], guard := some (12, false) }) rfl (by kernel_rfl) (by kernel_rfl) (by kernel_rfl) (by rfl) ?_
        try simp only [Act.put, List.setIfInBounds_toArray, List.set_cons_zero, List.set_cons_succ]
        refine wpG_skip (i := 18) (oi := { dst := some 51, op := Op.unOp UnOp.not 4 (Operand.tmp 50), type := 4, pos := "law.go:178", after := #[{ on := 17, ground := Ground.data }, { on := 12, ground := Ground.guard }], guard := some (12, false) }) rfl (by kernel_rfl) (by kernel_rfl) (by kernel_rfl) (by rfl) ?_
        try simp only [Act.put, List.setIfInBounds_toArray, List.set_cons_zero, List.set_cons_succ]
        refine wpG_skip (i := 19) (oi := { dst := some 52, op := Op.pick (Operand.tmp 45) (Operand.const (Value.bool true)) (Operand.tmp 51), type := 4, pos := "law.go:178", after := #[{ on := 12, ground := Ground.data }, { on := 18, ground := Ground.data }, { on := 9, ground := Ground.guard }], guard := some (9, true) }) rfl (by kernel_rfl) (by kernel_rfl) (by kernel_rfl) (by rfl) ?_
        try simp only [Act.put, List.setIfInBounds_toArray, List.set_cons_zero, List.set_cons_succ]
        refine wpG_take (i := 20) (oi := { dst := some 53, op := Op.pick (Operand.tmp 42) (Operand.tmp 52) (Operand.const (Value.bool false)), type := 4, pos := "law.go:178", after := #[{ on := 9, ground := Ground.data }, { on := 19, ground := Ground.data }, { on := 6, ground := Ground.guard }], guard := some (6, false) }) (v := ?_) rfl (by kernel_rfl) (by kernel_rfl) (by kernel_rfl) (by rfl) ?_ ?_
        rotate_left
        · intro W hW; first | (go_simp; done) | (go_simp; with_reducible rfl)
        try simp only [Act.put, List.setIfInBounds_toArray, List.set_cons_zero, List.set_cons_succ]
        refine wpG_take (i := 21) (oi := { dst := some 54, op := Op.pick (Operand.tmp 39) (Operand.const (Value.bool true)) (Operand.tmp 53), type := 4, pos := "law.go:178", after := #[{ on := 6, ground := Ground.data }, { on := 20, ground := Ground.data }], guard := none }) (v := ?_) rfl (by kernel_rfl) (by kernel_rfl) (by kernel_rfl) (by rfl) ?_ ?_
        rotate_left
        · intro W hW; first | (go_simp; done) | (go_simp; with_reducible rfl)
        try simp only [Act.put, List.setIfInBounds_toArray, List.set_cons_zero, List.set_cons_succ]
        refine wpG_done (by kernel_rfl) ?_
        clear HMp HMq r1 R5 hE
        go_wp2_with fail
        rw [HS.out]
        refine (parse_any s HLs.out _ (HT.out.kept hbw)).mono ?_
        rw [← HS.out]
        have HSm : Hid _ := ps_small s
        rw [psQ_eq] at HSm ⊢
        have HWr : Hid _ := psA_wr s
        obtain ⟨pe, hpe⟩ : ∃ x : Ptn × Int, x = psA s := ⟨_, rfl⟩
        rw [← hpe] at HSm HWr ⊢
        clear hpe
        obtain ⟨y, g⟩ := pe
        dsimp only at HSm HWr ⊢
        rintro e wv6 ⟨vy, rfl, hm, b6⟩
        replace hbw := stepB hbw b6
        clear b6
        obtain ⟨am6, nm6, cm6, em⟩ : ∃ a n c, vy = .slice a n c := by obtain ⟨a, c, e, -⟩ := hm.form; exact ⟨a, _, c, e⟩
        have HV6 : Hid (vy = .slice am6 nm6 cm6) := em
        clear em
        go_wp2_with (refine wpList_alloc_blk rfl 25 rfl (paC zeP (.slice none 0 0)) (allocPa _) ?_)
        intro wa6 ra ba sa
        go_wp2_with (refine wpList_store_part rfl 25 _ _ rfl rfl (paC y vy) rfl [] (paC zeP (.slice none 0 0)) [] (paC y vy) ra (whole15 _) (whole15 _) rfl rfl (paInfo zeP (.slice none 0 0)) (by rw [HV6.out]; exact paC_all _ _ _ _) ?_)
        intro ws6 rs hws
        have bs := hws.below _ _ (Nat.le_refl _) ba
        have R6 : BlkAt wv6.heap.size 25 (paC y vy) ws6 := rs
        have M6 : MsR ws6 vy y := hm.kept bs
        replace hbw := stepB hbw bs
        clear ra ba sa rs hws bs hm
        rcases HWr.out with ⟨hg, hwy⟩ | ⟨hg, hy⟩
        · have HWy : Hid (wrB y = true) := hwy
          subst hg
          clear hwy HWr
          go_wp2_with (refine wpList_load_part rfl 25 _ rfl rfl [] (paC y vy) [] R6 (whole15 _) rfl Tryz.underlying25 rfl (paInfo y _) ?_)
          refine (text_any y vy _ rfl (by have := HSm.out.1; unfold maxLen; omega) _ M6 (HT.out.kept hbw)).mono ?_
          rintro e w7 ⟨rfl, b7⟩
          replace R6 := R6.kept b7
          replace M6 := M6.kept b7
          replace hbw := stepB hbw b7
          clear b7
          obtain ⟨YB, hYB⟩ : ∃ B : ByteArray, B = ⟨(txT y).toArray⟩ := ⟨_, rfl⟩
          have HYB : Hid (YB = ⟨(txT y).toArray⟩) := hYB
          rw [← hYB]
          clear hYB
          go_wp2_with fail
          rw [HYB.out]
          refine (parse_any (txT y) (text_len15 y) _ (HT.out.kept hbw)).mono ?_
          rw [← HYB.out, psQ_eq, text_back HWy.out]
          rintro e w8 ⟨vz, rfl, hm, b8⟩
          dsimp only at hm ⊢
          replace R6 := R6.kept b8
          replace M6 := M6.kept b8
          replace hbw := stepB hbw b8
          clear b8
          obtain ⟨am8, nm8, cm8, em⟩ : ∃ a n c, vz = .slice a n c := by obtain ⟨a, c, e, -⟩ := hm.form; exact ⟨a, _, c, e⟩
          have HV8 : Hid (vz = .slice am8 nm8 cm8) := em
          clear em
          go_wp2_with (refine wpList_alloc_blk rfl 25 rfl (paC zeP (.slice none 0 0)) (allocPa _) ?_)
          intro wa8 ra ba sa
          go_wp2_with (refine wpList_store_part rfl 25 _ _ rfl rfl (paC y vz) rfl [] (paC zeP (.slice none 0 0)) [] (paC y vz) ra (whole15 _) (whole15 _) rfl rfl (paInfo zeP (.slice none 0 0)) (by rw [HV8.out]; exact paC_all _ _ _ _) ?_)
          intro ws8 rs hws
          have bs := hws.below _ _ (Nat.le_refl _) ba
          have R8 : BlkAt w8.heap.size 25 (paC y vz) ws8 := rs
          have M8 : MsR ws8 vz y := hm.kept bs
          have rd8 := R8.drew
          have rd6 := (R6.kept bs).drew
          have HMy : Hid (MsR ws8.drew vy y) := M6.kept bs.drew
          have HMz : Hid (MsR ws8.drew vz y) := M8.kept (Below.refl _ _).drew
          replace hbw := (stepB hbw bs).drew
          clear ra ba sa rs hws bs hm R8 R6 M6 M8
          go_wp2_with fail
          refine wpG_begin (by kernel_rfl) ?_
          refine wpG_take (i := 0) (oi := { dst := some 71, op := Op.move (Operand.tmp 13), type := 29, pos := "law.go:186", after := #[], guard := none }) (v := ?_) rfl (by kernel_rfl) (by kernel_rfl) (by kernel_rfl) (by rfl) ?_ ?_
          rotate_left
          · intro W hW; first | (go_simp; done) | (go_simp; with_reducible rfl)
          try simp only [Act.put, List.setIfInBounds_toArray, List.set_cons_zero, List.set_cons_succ]
          refine wpG_take (i := 1) (oi := { dst := some 72, op := Op.binOp BinOp.eql 29 (Operand.tmp 71) (Operand.const (Value.int IntKind.i64 0)) 29, type := 4, pos := "law.go:186", after := #[{ on := 0, ground := Ground.data }], guard := none }) (v := ?_) rfl (by kernel_rfl) (by kernel_rfl) (by kernel_rfl) (by rfl) ?_ ?_
          rotate_left
          · intro W hW; first | (go_simp; done) | (go_simp; with_reducible rfl)
          try simp only [Act.put, List.setIfInBounds_toArray, List.set_cons_zero, List.set_cons_succ]
          refine wpG_take (i := 2) (oi := { dst := some 73, op := Op.move (Operand.tmp 72), type := 4, pos := "law.go:186", after := #[{ on := 1, ground := Ground.data }], guard := none }) (v := ?_) rfl (by kernel_rfl) (by kernel_rfl) (by kernel_rfl) (by rfl) ?_ ?_
          rotate_left
          · intro W hW; first | (go_simp; done) | (go_simp; with_reducible rfl)
          try simp only [Act.put, List.setIfInBounds_toArray, List.set_cons_zero, List.set_cons_succ]
          refine wpG_take (i := 3) (oi := { dst := some 74, op := Op.load 25 (Operand.tmp 12), type := 25, pos := "law.go:186", after := #[{ on := 2, ground := Ground.guard }], guard := some (2, true) }) (v := ?_) rfl (by kernel_rfl) (by kernel_rfl) (by kernel_rfl) (by rfl) ?_ ?_
          rotate_left
          · intro W hW; refine Eq.trans (exec_load_part 25 _ (by rfl) (by rfl) [] (paC y vz) [] rd8 hW (whole15 _) rfl Tryz.underlying25 rfl (paInfo y _)) ?_; with_reducible rfl
          try simp only [Act.put, List.setIfInBounds_toArray, List.set_cons_zero, List.set_cons_succ]
          refine wpG_take (i := 5) (oi := { dst := some 76, op := Op.load 25 (Operand.tmp 10), type := 25, pos := "law.go:186", after := #[{ on := 2, ground := Ground.guard }], guard := some (2, true) }) (v := ?_) rfl (by kernel_rfl) (by kernel_rfl) (by kernel_rfl) (by rfl) ?_ ?_
          rotate_left
          · intro W hW; refine Eq.trans (exec_load_part 25 _ (by rfl) (by rfl) [] (paC y vy) [] rd6 hW (whole15 _) rfl Tryz.underlying25 rfl (paInfo y _)) ?_; with_reducible rfl
          try simp only [Act.put, List.setIfInBounds_toArray, List.set_cons_zero, List.set_cons_succ]
          refine wpG_do (i := 4) (o := { dst := some 75, op := Op.call { callee := Callee.value (Operand.func 12), args := #[Operand.tmp 74], argTypes := #[25] }, type := 36, pos := "law.go:186", after := #[{ on := 3, ground := Ground.data }, { on := 2, ground := Ground.chain }, { on := 2, ground := Ground.guard }], guard := some (2, true) }) (by kernel_rfl) rfl (by rfl) fun K hK => ?_
          go_simp
          refine (model_any y vz _ rfl (Nat.le_trans HSm.out.2.1 (by decide)) (fun k => Nat.le_trans (HSm.out.2.2 k) (by decide)) _ HMz.out).mono ?_
          rintro e w9 ⟨ui, ul, rfl, hU, b9⟩
          refine hK.out _ _ b9 ?_
          clear hK K
          try simp only [Act.put, List.setIfInBounds_toArray, List.set_cons_zero, List.set_cons_succ]
          refine wpG_do (i := 6) (o := { dst := some 77, op := Op.call { callee := Callee.value (Operand.func 12), args := #[Operand.tmp 76], argTypes := #[25] }, type := 36, pos := "law.go:186", after := #[{ on := 5, ground := Ground.data }, { on := 4, ground := Ground.chain }, { on := 2, ground := Ground.guard }], guard := some (2, true) }) (by kernel_rfl) rfl (by rfl) fun K hK => ?_
          go_simp
          refine (model_any y vy _ rfl (Nat.le_trans HSm.out.2.1 (by decide)) (fun k => Nat.le_trans (HSm.out.2.2 k) (by decide)) _ (HMy.out.kept b9)).mono ?_
          rintro e w10 ⟨ti, tl, rfl, hV, b10⟩
          refine hK.out _ _ b10 ?_
          clear hK K
          try simp only [Act.put, List.setIfInBounds_toArray, List.set_cons_zero, List.set_cons_succ]
          refine wpG_do (i := 7) (o := { dst := some 78, op := Op.call { callee := Callee.value (Operand.func 11), args := #[Operand.tmp 75, Operand.tmp 77], argTypes := #[36, 36] }, type := 4, pos := "law.go:186", after := #[{ on := 4, ground := Ground.data }, { on := 6, ground := Ground.data }, { on := 6, ground := Ground.chain }, { on := 2, ground := Ground.guard }], guard := some (2, true) }) (by kernel_rfl) rfl (by rfl) fun K hK => ?_
          go_simp
          refine (sameP_any y ui ul ti tl _ _ rfl rfl _ (hU.kept b10) hV).mono ?_
          rintro e w11 ⟨rfl, b11⟩
          refine hK.out _ _ b11 ?_
          clear hK K
          try simp only [Act.put, List.setIfInBounds_toArray, List.set_cons_zero, List.set_cons_succ]
          refine wpG_take (i := 8) (oi := { dst := some 79, op := Op.pick (Operand.tmp 73) (Operand.tmp 78) (Operand.const (Value.bool false)), type := 4, pos := "law.go:186", after := #[{ on := 2, ground := Ground.data }, { on := 7, ground := Ground.data }], guard := none }) (v := ?_) rfl (by kernel_rfl) (by kernel_rfl) (by kernel_rfl) (by rfl) ?_ ?_
          rotate_left
          · intro W hW; first | (go_simp; done) | (go_simp; with_reducible rfl)
          try simp only [Act.put, List.setIfInBounds_toArray, List.set_cons_zero, List.set_cons_succ]
          refine wpG_take (i := 9) (oi := { dst := some 4, op := Op.assign (Operand.tmp 79), type := 4, pos := "law.go:186", after := #[{ on := 8, ground := Ground.data }, { on := 7, ground := Ground.chain }, { on := 0, ground := Ground.phase }, { on := 1, ground := Ground.phase }, { on := 2, ground := Ground.phase }, { on := 3, ground := Ground.phase }, { on := 4, ground := Ground.phase }, { on := 5, ground := Ground.phase }, { on := 6, ground := Ground.phase }, { on := 7, ground := Ground.phase }, { on := 8, ground := Ground.phase }], guard := none }) (v := ?_) rfl (by kernel_rfl) (by kernel_rfl) (by kernel_rfl) (by rfl) ?_ ?_
          rotate_left
          · intro W hW; first | (go_simp; done) | (go_simp; with_reducible rfl)
          try simp only [Act.put, List.setIfInBounds_toArray, List.set_cons_zero, List.set_cons_succ]
          refine wpG_done (by kernel_rfl) ?_
          have b12 := stepB hbw (stepB b9 (stepB b10 b11))
          go_wp2
          go_ret
          exact ⟨rfl, b12⟩
        · have HY : Hid (y = zeP) := hy
          have g1 : (g == 0) = false := by simpa using hg
          have g2 : (g != 0) = true := by simpa using hg
          have HYt : Hid (txT y = []) := by show _ = _; rw [hy]; exact zeP_text
          clear hy HWr
          go_wp2_with (refine wpList_load_part rfl 25 _ rfl rfl [] (paC y vy) [] R6 (whole15 _) rfl Tryz.underlying25 rfl (paInfo y _) ?_)
          refine (text_any y vy _ rfl (by have := HSm.out.1; unfold maxLen; omega) _ M6 (HT.out.kept hbw)).mono ?_
          rw [HYt.out]
          rintro e w7 ⟨rfl, b7⟩
          replace hbw := stepB hbw b7
          clear b7 R6 M6
          go_wp2
          go_ret
          exact ⟨rfl, hbw⟩
end Go.Proofs.YtpoibhhijidobabGreatDoor
