/- What the law PatternParses answers at every input: the walk. -/
import Derived.Test.YtpoibhhijidobaaGreatDoorAw15
import Derived.Test.YtpoibhhijidobaaGreatDoorL15c
import Derived.Test.YtpoibhhijidobaaGreatDoorRef15p
namespace Go.Proofs.YtpoibhhijidobaaGreatDoor
open Go.ChangeShapes Go.WideShapes Go.ChangeAt Go.RowKit
set_option linter.unusedSimpArgs false
set_option linter.unusedVariables false

set_option maxRecDepth 100000 in
set_option maxHeartbeats 8000000 in
theorem parses_walk (s : List UInt8) (hs : s.length ≤ maxLen) (w : World) (hT : TkT w) :
    Calls Tryz.prog 3 #[.string ⟨s.toArray⟩] w fun e w' => e = .returned (.bool true) ∧ Below w.heap.size w w' := by
  have HT : Hid (TkT w) := hT
  have HL : Hid (s.length ≤ maxLen) := hs
  obtain ⟨n, hn⟩ : ∃ n : Nat, n = s.length := ⟨_, rfl⟩
  obtain ⟨SB, hSB⟩ : ∃ B : ByteArray, B = ⟨s.toArray⟩ := ⟨_, rfl⟩
  have hsz : SB.size = n := by rw [hSB, hn]; exact str_size s
  have HS : Hid (SB = ⟨s.toArray⟩) := hSB
  have HN : Hid (n = s.length) := hn
  rw [← hn] at hs
  unfold maxLen at hs
  rw [← hSB]
  clear hT hSB hn
  go_enter Tryz.func3, Tryz.ntmps3
  go_wp2_with fail
  refine (awake_any _ HT.out).mono ?_
  rintro e w2 ⟨rfl, b2⟩
  by_cases hlt : 5000 < n
  · have d1 : decide ((5000 : Int) < (n : Int)) = true := decide_eq_true (by omega)
    have d2 : (5000 : Int) < (n : Int) := by omega
    go_wp2
    go_ret
    exact ⟨rfl, b2⟩
  · have d1 : decide ((5000 : Int) < (n : Int)) = false := decide_eq_false (by omega)
    have d2 : (n : Int) ≤ (5000 : Int) := by omega
    have HL2 : Hid (s.length ≤ 1000000) := by show _ ≤ _; rw [← HN.out]; omega
    clear hlt
    go_wp2_with fail
    rw [HS.out]
    refine (parse_any s HL.out _ (HT.out.kept b2)).mono ?_
    rw [← HS.out]
    have HB : Hid _ := ps_small s
    rw [psQ_eq] at HB ⊢
    have hP15 := fun w => parse15_any s HL2.out w
    obtain ⟨pe, hpe⟩ : ∃ x : Ptn × Int, x = psA s := ⟨_, rfl⟩
    rw [← hpe] at HB hP15 ⊢
    have HP15 : Hid _ := hP15
    clear hP15 hpe
    obtain ⟨p, x⟩ := pe
    dsimp only at HB HP15 ⊢
    rintro e w3 ⟨vm, rfl, hm, b3⟩
    replace b3 := stepB b2 b3
    clear b2
    obtain ⟨am, nm, cm, em⟩ : ∃ a n c, vm = .slice a n c := by obtain ⟨a, c, e, -⟩ := hm.form; exact ⟨a, _, c, e⟩
    have HVm : Hid (vm = .slice am nm cm) := em
    clear em
    go_wp2_with (refine wpList_alloc_blk rfl 26 rfl (paC zeP (.slice none 0 0)) (allocPa _) ?_)
    intro w4 r4 b4 s4
    go_wp2_with (refine wpList_store_part rfl 26 _ _ rfl rfl (paC p vm) rfl [] (paC zeP (.slice none 0 0)) [] (paC p vm) r4 (whole15 _) (whole15 _) rfl rfl (paInfo zeP (.slice none 0 0)) (by rw [HVm.out]; exact paC_all _ _ _ _) ?_)
    intro w5 r5 hw5
    have b5 := hw5.below _ _ (Nat.le_refl _) b4
    have HR1 : Hid (BlkAt w3.heap.size 26 (paC p vm) w5) := r5
    have HM1 : Hid (MsR w5 vm p) := hm.kept b5
    have hbw := stepB b3 b5
    clear r4 b4 s4 r5 hw5 b5 b3 hm
    go_wp2_with fail
    rw [HS.out]
    refine (HP15.out _).mono ?_
    rw [← HS.out]
    rintro e w6 ⟨vi, vl, rfl, hR, b6⟩
    obtain ⟨ai, ci, al, cl, ei, el⟩ : ∃ ai ci al cl, vi = .slice ai p.n ci ∧ vl = .slice al p.n cl := by
      obtain ⟨ai, ci, e1, -⟩ := hR.lenI
      obtain ⟨al, cl, e2, -⟩ := hR.len
      exact ⟨ai, ci, al, cl, e1, e2⟩
    have HVi : Hid (vi = .slice ai p.n ci ∧ vl = .slice al p.n cl) := ⟨ei, el⟩
    clear ei el
    go_wp2_with (refine wpList_alloc_blk rfl 33 rfl (ptC zeP (.slice none 0 0) (.slice none 0 0)) (allocPt _) ?_)
    intro w7 r7 b7 s7
    go_wp2_with (refine wpList_store_part rfl 33 _ _ rfl rfl (ptC p vi vl) rfl [] (ptC zeP (.slice none 0 0) (.slice none 0 0)) [] (ptC p vi vl) r7 (whole15 _) (whole15 _) rfl rfl (ptInfo zeP (.slice none 0 0) (.slice none 0 0)) (by rw [HVi.out.1, HVi.out.2]; exact ptC_all _ _ _ _ _ _ _) ?_)
    intro w8 r8 hw8
    have b8 := hw8.below _ _ (Nat.le_refl _) b7
    have hR8 : PtR w8 p vi vl := hR.kept b8
    replace b8 := stepB b6 b8
    have rd : BlkAt w3.heap.size 26 (paC p vm) w8.drew := (HR1.out.kept b8).drew
    have re : BlkAt w6.heap.size 33 (ptC p vi vl) w8.drew := r8.drew
    have HRe : Hid (PtR w8.drew p vi vl) := hR8.kept (Below.refl _ _).drew
    have HMd : Hid (MsR w8.drew vm p) := HM1.out.kept b8.drew
    replace hbw := (stepB hbw b8).drew
    have q1 : (x == x) = true := by simp
    clear r7 b7 s7 r8 hw8 b8 b6 hR hR8 HR1 HM1
    go_wp2_with fail
    refine wpG_begin (by kernel_rfl) ?_
    refine wpG_take (i := 0) (oi := { dst := some 24, op := Op.move (Operand.tmp 5), type := 27, pos := "law.go:74", after := #[], guard := none }) (v := ?_) rfl (by kernel_rfl) (by kernel_rfl) (by kernel_rfl) (by rfl) ?_ ?_
    rotate_left
    · intro W hW; first | (go_simp; done) | (go_simp; with_reducible rfl)
    try simp only [Act.put, List.setIfInBounds_toArray, List.set_cons_zero, List.set_cons_succ]
    refine wpG_take (i := 1) (oi := { dst := some 25, op := Op.move (Operand.tmp 7), type := 27, pos := "law.go:74", after := #[], guard := none }) (v := ?_) rfl (by kernel_rfl) (by kernel_rfl) (by kernel_rfl) (by rfl) ?_ ?_
    rotate_left
    · intro W hW; first | (go_simp; done) | (go_simp; with_reducible rfl)
    try simp only [Act.put, List.setIfInBounds_toArray, List.set_cons_zero, List.set_cons_succ]
    refine wpG_take (i := 2) (oi := { dst := some 26, op := Op.binOp BinOp.eql 27 (Operand.tmp 24) (Operand.tmp 25) 27, type := 4, pos := "law.go:74", after := #[{ on := 0, ground := Ground.data }, { on := 1, ground := Ground.data }], guard := none }) (v := ?_) rfl (by kernel_rfl) (by kernel_rfl) (by kernel_rfl) (by rfl) ?_ ?_
    rotate_left
    · intro W hW; first | (go_simp; done) | (go_simp; with_reducible rfl)
    try simp only [Act.put, List.setIfInBounds_toArray, List.set_cons_zero, List.set_cons_succ]
    refine wpG_take (i := 3) (oi := { dst := some 27, op := Op.move (Operand.tmp 26), type := 4, pos := "law.go:74", after := #[{ on := 2, ground := Ground.data }], guard := none }) (v := ?_) rfl (by kernel_rfl) (by kernel_rfl) (by kernel_rfl) (by rfl) ?_ ?_
    rotate_left
    · intro W hW; first | (go_simp; done) | (go_simp; with_reducible rfl)
    try simp only [Act.put, List.setIfInBounds_toArray, List.set_cons_zero, List.set_cons_succ]
    refine wpG_take (i := 4) (oi := { dst := some 28, op := Op.load 26 (Operand.tmp 4), type := 26, pos := "law.go:74", after := #[{ on := 3, ground := Ground.guard }], guard := some (3, true) }) (v := ?_) rfl (by kernel_rfl) (by kernel_rfl) (by kernel_rfl) (by rfl) ?_ ?_
    rotate_left
    · intro W hW; refine Eq.trans (exec_load_part 26 _ (by rfl) (by rfl) [] (paC p vm) [] rd hW (whole15 _) rfl Tryz.underlying26 rfl (paInfo p _)) ?_; with_reducible rfl
    try simp only [Act.put, List.setIfInBounds_toArray, List.set_cons_zero, List.set_cons_succ]
    refine wpG_take (i := 6) (oi := { dst := some 30, op := Op.load 33 (Operand.tmp 6), type := 33, pos := "law.go:74", after := #[{ on := 3, ground := Ground.guard }], guard := some (3, true) }) (v := ?_) rfl (by kernel_rfl) (by kernel_rfl) (by kernel_rfl) (by rfl) ?_ ?_
    rotate_left
    · intro W hW; refine Eq.trans (exec_load_part 33 _ (by rfl) (by rfl) [] (ptC p vi vl) [] re hW (whole15 _) rfl Tryz.underlying33 rfl (ptInfo p _ _)) ?_; with_reducible rfl
    try simp only [Act.put, List.setIfInBounds_toArray, List.set_cons_zero, List.set_cons_succ]
    refine wpG_do (i := 5) (o := { dst := some 29, op := Op.call { callee := Callee.value (Operand.func 13), args := #[Operand.tmp 28], argTypes := #[26] }, type := 33, pos := "law.go:74", after := #[{ on := 4, ground := Ground.data }, { on := 3, ground := Ground.chain }, { on := 3, ground := Ground.guard }], guard := some (3, true) }) (by kernel_rfl) rfl (by rfl) fun K hK => ?_
    go_simp
    refine (model_any p vm _ rfl (Nat.le_trans HB.out.2.1 (by decide)) (fun k => Nat.le_trans (HB.out.2.2 k) (by decide)) _ HMd.out).mono ?_
    rintro e w9 ⟨ui, ul, rfl, hG, b9⟩
    refine hK.out _ _ b9 ?_
    clear hK K
    try simp only [Act.put, List.setIfInBounds_toArray, List.set_cons_zero, List.set_cons_succ]
    refine wpG_do (i := 7) (o := { dst := some 31, op := Op.call { callee := Callee.value (Operand.func 12), args := #[Operand.tmp 29, Operand.tmp 30], argTypes := #[33, 33] }, type := 4, pos := "law.go:74", after := #[{ on := 5, ground := Ground.data }, { on := 6, ground := Ground.data }, { on := 5, ground := Ground.chain }, { on := 3, ground := Ground.guard }], guard := some (3, true) }) (by kernel_rfl) rfl (by rfl) fun K hK => ?_
    go_simp
    refine (sameP_any p ui ul vi vl _ _ rfl rfl _ hG (HRe.out.kept b9)).mono ?_
    rintro e w10 ⟨rfl, b10⟩
    refine hK.out _ _ b10 ?_
    clear hK K
    try simp only [Act.put, List.setIfInBounds_toArray, List.set_cons_zero, List.set_cons_succ]
    refine wpG_take (i := 8) (oi := { dst := some 32, op := Op.pick (Operand.tmp 27) (Operand.tmp 31) (Operand.const (Value.bool false)), type := 4, pos := "law.go:74", after := #[{ on := 3, ground := Ground.data }, { on := 7, ground := Ground.data }], guard := none }) (v := ?_) rfl (by kernel_rfl) (by kernel_rfl) (by kernel_rfl) (by rfl) ?_ ?_
    rotate_left
    · intro W hW; first | (go_simp; done) | (go_simp; with_reducible rfl)
    try simp only [Act.put, List.setIfInBounds_toArray, List.set_cons_zero, List.set_cons_succ]
    refine wpG_take (i := 9) (oi := { dst := some 2, op := Op.assign (Operand.tmp 32), type := 4, pos := "law.go:74", after := #[{ on := 8, ground := Ground.data }, { on := 7, ground := Ground.chain }, { on := 0, ground := Ground.phase }, { on := 1, ground := Ground.phase }, { on := 2, ground := Ground.phase }, { on := 3, ground := Ground.phase }, { on := 4, ground := Ground.phase }, { on := 5, ground := Ground.phase }, { on := 6, ground := Ground.phase }, { on := 7, ground := Ground.phase }, { on := 8, ground := Ground.phase }], guard := none }) (v := ?_) rfl (by kernel_rfl) (by kernel_rfl) (by kernel_rfl) (by rfl) ?_ ?_
    rotate_left
    · intro W hW; first | (go_simp; done) | (go_simp; with_reducible rfl)
    try simp only [Act.put, List.setIfInBounds_toArray, List.set_cons_zero, List.set_cons_succ]
    refine wpG_done (by kernel_rfl) ?_
    have b11 := stepB hbw (stepB b9 b10)
    go_wp2
    go_ret
    exact ⟨rfl, b11⟩
end Go.Proofs.YtpoibhhijidobaaGreatDoor
