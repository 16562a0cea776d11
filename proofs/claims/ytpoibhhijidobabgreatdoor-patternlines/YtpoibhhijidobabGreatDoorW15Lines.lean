/- What the law PatternLines answers at every input: the walk. -/
import Derived.Test.YtpoibhhijidobabGreatDoorAw15
import Derived.Test.YtpoibhhijidobabGreatDoorL15c
import Derived.Test.YtpoibhhijidobabGreatDoorRef15p
namespace Go.Proofs.YtpoibhhijidobabGreatDoor
open Go.ChangeShapes Go.WideShapes Go.ChangeAt Go.RowKit
set_option linter.unusedSimpArgs false
set_option linter.unusedVariables false

set_option maxRecDepth 100000 in
set_option maxHeartbeats 8000000 in
theorem lines_walk (s : List UInt8) (hs : s.length ≤ maxLen) (w : World) (hT : TkT w) :
    Calls Tryz.prog 5 #[.string ⟨s.toArray⟩] w fun e w' => e = .returned (.bool true) ∧ Below w.heap.size w w' := by
  have HT : Hid (TkT w) := hT
  have HL : Hid (s.length ≤ maxLen) := hs
  obtain ⟨n, hn⟩ : ∃ n : Nat, n = s.length := ⟨_, rfl⟩
  obtain ⟨SB, hSB⟩ : ∃ B : ByteArray, B = ⟨s.toArray⟩ := ⟨_, rfl⟩
  have hsz : SB.size = n := by rw [hSB, hn]; exact str_size s
  have HS : Hid (SB = ⟨s.toArray⟩) := hSB
  have HN : Hid (n = s.length) := hn
  rw [← hn] at hs
  unfold maxLen at hs
  rw [← hSB]
  clear hT hSB hn
  go_enter Tryz.func5, Tryz.ntmps5
  go_wp2_with fail
  refine (awake_any _ HT.out).mono ?_
  rintro e w2 ⟨rfl, b2⟩
  by_cases hlt : 1000 < n
  · have d1 : decide ((1000 : Int) < (n : Int)) = true := decide_eq_true (by omega)
    have d2 : (1000 : Int) < (n : Int) := by omega
    go_wp2
    go_ret
    exact ⟨rfl, b2⟩
  · have d1 : decide ((1000 : Int) < (n : Int)) = false := decide_eq_false (by omega)
    have d2 : (n : Int) ≤ (1000 : Int) := by omega
    have hL3 : s.length ≤ 1000 := by rw [← HN.out]; omega
    obtain ⟨z, hz⟩ : ∃ z : List UInt8, z = [88, 58, 10] ++ s ++ [10] := ⟨_, rfl⟩
    obtain ⟨X1, hX1⟩ : ∃ B : ByteArray, B = ⟨([88, 58, 10] ++ s).toArray⟩ := ⟨_, rfl⟩
    obtain ⟨ZB, hZB⟩ : ∃ B : ByteArray, B = ⟨z.toArray⟩ := ⟨_, rfl⟩
    have a1 := addP [88, 58, 10] s _ ⟨#[88, 58, 10]⟩ SB X1 rfl HS.out hX1 rfl (by decide) (by omega)
    have a2 := addP ([88, 58, 10] ++ s) [10] z X1 ⟨#[10]⟩ ZB hX1 rfl hZB hz (by simp; omega) (by decide)
    have HZ : Hid (ZB = ⟨z.toArray⟩) := hZB
    have HZl : Hid (z.length ≤ 1004) := by show _ ≤ _; rw [hz]; simp; omega
    clear hlt hz hX1 hZB hL3
    go_wp2_with fail
    clear a1 a2
    rw [HZ.out]
    refine (parse_any z (by have := HZl.out; unfold maxLen; omega) _ (HT.out.kept b2)).mono ?_
    rw [← HZ.out]
    have HB : Hid _ := ps_small z
    rw [psQ_eq] at HB ⊢
    have hP15 := fun w => parse15_any z (by have := HZl.out; omega) w
    obtain ⟨pe, hpe⟩ : ∃ x : Ptn × Int, x = psA z := ⟨_, rfl⟩
    rw [← hpe] at HB hP15 ⊢
    have HP15 : Hid _ := hP15
    clear hP15 hpe
    obtain ⟨p, x⟩ := pe
    dsimp only at HB HP15 ⊢
    rintro e w3 ⟨vm, rfl, hm, b3⟩
    replace b3 := stepB b2 b3
    clear b2
    obtain ⟨am, nm, cm, em⟩ : ∃ a n c, vm = .slice a n c := by obtain ⟨a, c, e, -⟩ := hm.form; exact ⟨a, _, c, e⟩
    have HVm : Hid (vm = .slice am nm cm) := em
    clear em
    go_wp2_with (refine wpList_alloc_blk rfl 25 rfl (paC zeP (.slice none 0 0)) (allocPa _) ?_)
    intro w4 r4 b4 s4
    go_wp2_with (refine wpList_store_part rfl 25 _ _ rfl rfl (paC p vm) rfl [] (paC zeP (.slice none 0 0)) [] (paC p vm) r4 (whole15 _) (whole15 _) rfl rfl (paInfo zeP (.slice none 0 0)) (by rw [HVm.out]; exact paC_all _ _ _ _) ?_)
    intro w5 r5 hw5
    have b5 := hw5.below _ _ (Nat.le_refl _) b4
    have HR1 : Hid (BlkAt w3.heap.size 25 (paC p vm) w5) := r5
    have HM1 : Hid (MsR w5 vm p) := hm.kept b5
    have hbw := stepB b3 b5
    clear r4 b4 s4 r5 hw5 b5 b3 hm
    go_wp2_with fail
    rw [HZ.out]
    refine (HP15.out _).mono ?_
    rw [← HZ.out]
    rintro e w6 ⟨vi, vl, rfl, hR, b6⟩
    obtain ⟨ai, ci, al, cl, ei, el⟩ : ∃ ai ci al cl, vi = .slice ai p.n ci ∧ vl = .slice al p.n cl := by
      obtain ⟨ai, ci, e1, -⟩ := hR.lenI
      obtain ⟨al, cl, e2, -⟩ := hR.len
      exact ⟨ai, ci, al, cl, e1, e2⟩
    have HVi : Hid (vi = .slice ai p.n ci ∧ vl = .slice al p.n cl) := ⟨ei, el⟩
    clear ei el
    go_wp2_with (refine wpList_alloc_blk rfl 36 rfl (ptC zeP (.slice none 0 0) (.slice none 0 0)) (allocPt _) ?_)
    intro w7 r7 b7 s7
    go_wp2_with (refine wpList_store_part rfl 36 _ _ rfl rfl (ptC p vi vl) rfl [] (ptC zeP (.slice none 0 0) (.slice none 0 0)) [] (ptC p vi vl) r7 (whole15 _) (whole15 _) rfl rfl (ptInfo zeP (.slice none 0 0) (.slice none 0 0)) (by rw [HVi.out.1, HVi.out.2]; exact ptC_all _ _ _ _ _ _ _) ?_)
    intro w8 r8 hw8
    have b8 := hw8.below _ _ (Nat.le_refl _) b7
    have hR8 : PtR w8 p vi vl := hR.kept b8
    replace b8 := stepB b6 b8
    have rd : BlkAt w3.heap.size 25 (paC p vm) w8.drew := (HR1.out.kept b8).drew
    have re : BlkAt w6.heap.size 36 (ptC p vi vl) w8.drew := r8.drew
    have HRe : Hid (PtR w8.drew p vi vl) := hR8.kept (Below.refl _ _).drew
    have HMd : Hid (MsR w8.drew vm p) := HM1.out.kept b8.drew
    replace hbw := (stepB hbw b8).drew
    have q1 : (x == x) = true := by simp
    clear r7 b7 s7 r8 hw8 b8 b6 hR hR8 HR1 HM1
    go_wp2_with fail
    refine wpG_begin (by kernel_rfl) ?_
    refine wpG_take (i := 0) (oi := { dst := some 28, op := Op.move (Operand.tmp 6), type := 29, pos := "law.go:221", after := #[], guard := none }) (v := ?_) rfl (by kernel_rfl) (by kernel_rfl) (by kernel_rfl) (by rfl) ?_ ?_
    rotate_left
    · intro W hW; first | (go_simp; done) | (go_simp; with_reducible rfl)
    try simp only [Act.put, List.setIfInBounds_toArray, List.set_cons_zero, List.set_cons_succ]
    refine wpG_take (i := 1) (oi := { dst := some 29, op := Op.move (Operand.tmp 8), type := 29, pos := "law.go:221", after := #[], guard := none }) (v := ?_) rfl (by kernel_rfl) (by kernel_rfl) (by kernel_rfl) (by rfl) ?_ ?_
    rotate_left
    · intro W hW; first | (go_simp; done) | (go_simp; with_reducible rfl)
    try simp only [Act.put, List.setIfInBounds_toArray, List.set_cons_zero, List.set_cons_succ]
    refine wpG_take (i := 2) (oi := { dst := some 30, op := Op.binOp BinOp.eql 29 (Operand.tmp 28) (Operand.tmp 29) 29, type := 4, pos := "law.go:221", after := #[{ on := 0, ground := Ground.data }, { on := 1, ground := Ground.data }], guard := none }) (v := ?_) rfl (by kernel_rfl) (by kernel_rfl) (by kernel_rfl) (by rfl) ?_ ?_
    rotate_left
    · intro W hW; first | (go_simp; done) | (go_simp; with_reducible rfl)
    try simp only [Act.put, List.setIfInBounds_toArray, List.set_cons_zero, List.set_cons_succ]
    refine wpG_take (i := 3) (oi := { dst := some 31, op := Op.move (Operand.tmp 30), type := 4, pos := "law.go:221", after := #[{ on := 2, ground := Ground.data }], guard := none }) (v := ?_) rfl (by kernel_rfl) (by kernel_rfl) (by kernel_rfl) (by rfl) ?_ ?_
    rotate_left
    · intro W hW; first | (go_simp; done) | (go_simp; with_reducible rfl)
    try simp only [Act.put, List.setIfInBounds_toArray, List.set_cons_zero, List.set_cons_succ]
    refine wpG_take (i := 4) (oi := { dst := some 32, op := Op.load 25 (Operand.tmp 5), type := 25, pos := "law.go:221", after := #[{ on := 3, ground := Ground.guard }], guard := some (3, true) }) (v := ?_) rfl (by kernel_rfl) (by kernel_rfl) (by kernel_rfl) (by rfl) ?_ ?_
    rotate_left
    · intro W hW; refine Eq.trans (exec_load_part 25 _ (by rfl) (by rfl) [] (paC p vm) [] rd hW (whole15 _) rfl Tryz.underlying25 rfl (paInfo p _)) ?_; with_reducible rfl
    try simp only [Act.put, List.setIfInBounds_toArray, List.set_cons_zero, List.set_cons_succ]
    refine wpG_take (i := 6) (oi := { dst := some 34, op := Op.load 36 (Operand.tmp 7), type := 36, pos := "law.go:221", after := #[{ on := 3, ground := Ground.guard }], guard := some (3, true) }) (v := ?_) rfl (by kernel_rfl) (by kernel_rfl) (by kernel_rfl) (by rfl) ?_ ?_
    rotate_left
    · intro W hW; refine Eq.trans (exec_load_part 36 _ (by rfl) (by rfl) [] (ptC p vi vl) [] re hW (whole15 _) rfl Tryz.underlying36 rfl (ptInfo p _ _)) ?_; with_reducible rfl
    try simp only [Act.put, List.setIfInBounds_toArray, List.set_cons_zero, List.set_cons_succ]
    refine wpG_do (i := 5) (o := { dst := some 33, op := Op.call { callee := Callee.value (Operand.func 12), args := #[Operand.tmp 32], argTypes := #[25] }, type := 36, pos := "law.go:221", after := #[{ on := 4, ground := Ground.data }, { on := 3, ground := Ground.chain }, { on := 3, ground := Ground.guard }], guard := some (3, true) }) (by kernel_rfl) rfl (by rfl) fun K hK => ?_
    go_simp
    refine (model_any p vm _ rfl (Nat.le_trans HB.out.2.1 (by decide)) (fun k => Nat.le_trans (HB.out.2.2 k) (by decide)) _ HMd.out).mono ?_
    rintro e w9 ⟨ui, ul, rfl, hG, b9⟩
    refine hK.out _ _ b9 ?_
    clear hK K
    try simp only [Act.put, List.setIfInBounds_toArray, List.set_cons_zero, List.set_cons_succ]
    refine wpG_do (i := 7) (o := { dst := some 35, op := Op.call { callee := Callee.value (Operand.func 11), args := #[Operand.tmp 33, Operand.tmp 34], argTypes := #[36, 36] }, type := 4, pos := "law.go:221", after := #[{ on := 5, ground := Ground.data }, { on := 6, ground := Ground.data }, { on := 5, ground := Ground.chain }, { on := 3, ground := Ground.guard }], guard := some (3, true) }) (by kernel_rfl) rfl (by rfl) fun K hK => ?_
    go_simp
    refine (sameP_any p ui ul vi vl _ _ rfl rfl _ hG (HRe.out.kept b9)).mono ?_
    rintro e w10 ⟨rfl, b10⟩
    refine hK.out _ _ b10 ?_
    clear hK K
    try simp only [Act.put, List.setIfInBounds_toArray, List.set_cons_zero, List.set_cons_succ]
    refine wpG_take (i := 8) (oi := { dst := some 36, op := Op.pick (Operand.tmp 31) (Operand.tmp 35) (Operand.const (Value.bool false)), type := 4, pos := "law.go:221", after := #[{ on := 3, ground := Ground.data }, { on := 7, ground := Ground.data }], guard := none }) (v := ?_) rfl (by kernel_rfl) (by kernel_rfl) (by kernel_rfl) (by rfl) ?_ ?_
    rotate_left
    · intro W hW; first | (go_simp; done) | (go_simp; with_reducible rfl)
    try simp only [Act.put, List.setIfInBounds_toArray, List.set_cons_zero, List.set_cons_succ]
    refine wpG_take (i := 9) (oi := { dst := some 2, op := Op.assign (Operand.tmp 36), type := 4, pos := "law.go:221", after := #[{ on := 8, ground := Ground.data }, { on := 7, ground := Ground.chain }, { on := 0, ground := Ground.phase }, { on := 1, ground := Ground.phase }, { on := 2, ground := Ground.phase }, { on := 3, ground := Ground.phase }, { on := 4, ground := Ground.phase }, { on := 5, ground := Ground.phase }, { on := 6, ground := Ground.phase }, { on := 7, ground := Ground.phase }, { on := 8, ground := Ground.phase }], guard := none }) (v := ?_) rfl (by kernel_rfl) (by kernel_rfl) (by kernel_rfl) (by rfl) ?_ ?_
    rotate_left
    · intro W hW; first | (go_simp; done) | (go_simp; with_reducible rfl)
    try simp only [Act.put, List.setIfInBounds_toArray, List.set_cons_zero, List.set_cons_succ]
    refine wpG_done (by kernel_rfl) ?_
    have b11 := stepB hbw (stepB b9 b10)
    go_wp2
    go_ret
    exact ⟨rfl, b11⟩
end Go.Proofs.YtpoibhhijidobabGreatDoor
