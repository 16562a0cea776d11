/- The walk of the law SamplePacks. -/
import Derived.Test.YtlcnepnappfjeaaDoorL12h
import Derived.Test.YtlcnepnappfjeaaDoorL12i
import Derived.Test.YtlcnepnappfjeaaDoorRef12h
namespace Go.Proofs.YtlcnepnappfjeaaDoor
open Go.ChangeShapes Go.WideShapes Go.ChangeAt Go.RowKit
set_option linter.unusedSimpArgs false
set_option linter.unusedVariables false

set_option maxRecDepth 100000 in
set_option maxHeartbeats 8000000 in
theorem packs_walk (D : Int) (A : Array Value) (F : Nat → Int) (hF : Po F) (hA : A = ((gI F).map (Value.int .i64)).toArray) (v : Value) (l : List UInt8) (w : World) (hr : Rd w v l) (hT : Tabs w) :
    Calls Tryd.prog 5 #[.int .i64 D, .agg A, v] w fun e w' => e = .returned (.bool true) ∧ Below w.heap.size w w' := by
  obtain ⟨av, cv, rfl, -, -, -, -⟩ := id hr
  have HF : Hid (Po F) := hF
  clear hF
  go_enter Tryd.func5, Tryd.ntmps5
  go_wp2_with (refine wpList_box_row (k := .i64) rfl 24 _ rfl (gI F) (by rw [← hA]; rfl) (gI_ne _) (poMax _) ?_)
  intro x1 qF bn sn
  rw [gI_length] at qF
  have hbw := bn
  replace hr := hr.kept bn
  replace hT := hT.kept bn
  clear bn sn hA
  go_wp2_with fail
  refine (awake_any _ hT).mono ?_
  rintro e w1 ⟨rfl, bn⟩
  replace hr := hr.kept bn
  replace qF := qF.kept bn
  replace hbw := stepB hbw bn
  clear bn
  by_cases h : l.length ≤ 1000
  · have d1 : decide ((1000 : Int) < (l.length : Int)) = false := decide_eq_false (by omega)
    have d2 : (l.length : Int) ≤ 1000 := by omega
    have H : Hid (l.length ≤ 900000) := by show _ ≤ _; omega
    clear h
    go_wp2_with fail
    refine (sunpack_all D _ l _ hr).mono ?_
    rintro e d1 ⟨he, bn⟩
    obtain ⟨Pa, hP⟩ : ∃ P : Nat → FZ, P = (upA D l).1 := ⟨_, rfl⟩
    obtain ⟨ea, hE⟩ : ∃ z : Int, z = (upA D l).2 := ⟨_, rfl⟩
    rw [← hP, ← hE] at he
    have HPa : Hid _ := hP
    have HEa : Hid _ := hE
    clear hP hE
    subst he
    have hb0 := bn
    go_wp2_with (refine wpList_alloc_row (k := .i64) rfl 25 rfl (gI fun _ => 0) (alloc_poS _) (gI_ne _) (poMax _) ?_)
    intro e1 ro bo so
    rw [gI_length] at ro
    replace hb0 := stepB hb0 bo
    clear so bo
    go_wp2_with (refine wpList_store_row rfl 25 _ _ rfl (gI (fzF Pa)) rfl rfl ro (by rw [gI_length, gI_length]) (poInfoS _) ?_)
    intro g1 ra hw
    replace hb0 := hw.below _ _ bn.size hb0
    replace hr := hr.kept hb0
    replace qF := qF.kept hb0
    replace hbw := stepB hbw hb0
    clear hb0 hw bn ro
    go_wp2_with fail
    refine (unpack12_all D _ l _ hr).mono ?_
    rintro e d2 ⟨he, bn⟩
    rw [← HPa.out, ← HEa.out] at he
    subst he
    have hb0 := bn
    go_wp2_with (refine wpList_alloc_row (k := .i64) rfl 24 rfl (gI fun _ => 0) (alloc_po _) (gI_ne _) (poMax _) ?_)
    intro e2 ro bo so
    rw [gI_length] at ro
    replace hb0 := stepB hb0 bo
    clear so bo
    go_wp2_with (refine wpList_store_row rfl 24 _ _ rfl (gI (fzF Pa)) rfl rfl ro (by rw [gI_length, gI_length]) (poInfo _) ?_)
    intro g2 rb hw
    replace hb0 := hw.below _ _ bn.size hb0
    replace hr := hr.kept hb0
    replace qF := qF.kept hb0
    replace ra := ra.kept hb0
    replace hbw := stepB hbw hb0
    clear hb0 hw bn ro
    clear hr hT
    have qa : ∀ w, _ := eq_poS (f := Pa) (g := Pa) (fun _ _ => rfl)
    unfold poV at qa
    have QA : Hid _ := qa
    clear qa
    go_wp2_with fail
    replace qF := qF.drew
    replace ra := ra.drew
    replace rb := rb.drew
    replace hbw := hbw.drew
    refine wpG_begin (by kernel_rfl) ?_
    refine wpG_take (i := 0) (oi := { dst := some 30, op := Op.move (Operand.tmp 0), type := 3, pos := "law.go:64", after := #[], guard := none }) (v := ?_) rfl (by kernel_rfl) (by kernel_rfl) (by kernel_rfl) (by rfl) ?_ ?_
    rotate_left
    · intro W hW; first | (go_simp; done) | (go_simp; with_reducible rfl)
    try simp only [Act.put, List.setIfInBounds_toArray, List.set_cons_zero, List.set_cons_succ]
    refine wpG_take (i := 1) (oi := { dst := some 31, op := Op.load 24 (Operand.tmp 4), type := 24, pos := "law.go:64", after := #[], guard := none }) (v := ?_) rfl (by kernel_rfl) (by kernel_rfl) (by kernel_rfl) (by rfl) ?_ ?_
    rotate_left
    · intro W hW; refine Eq.trans (exec_load_row' 24 _ (by rfl) (by rfl) qF hW _ Tryd.underlying24 rfl (poInfo _)) ?_; with_reducible rfl
    try simp only [Act.put, List.setIfInBounds_toArray, List.set_cons_zero, List.set_cons_succ]
    refine wpG_take (i := 4) (oi := { dst := some 34, op := Op.move (Operand.tmp 0), type := 3, pos := "law.go:64", after := #[], guard := none }) (v := ?_) rfl (by kernel_rfl) (by kernel_rfl) (by kernel_rfl) (by rfl) ?_ ?_
    rotate_left
    · intro W hW; first | (go_simp; done) | (go_simp; with_reducible rfl)
    try simp only [Act.put, List.setIfInBounds_toArray, List.set_cons_zero, List.set_cons_succ]
    refine wpG_take (i := 5) (oi := { dst := some 35, op := Op.load 24 (Operand.tmp 4), type := 24, pos := "law.go:64", after := #[], guard := none }) (v := ?_) rfl (by kernel_rfl) (by kernel_rfl) (by kernel_rfl) (by rfl) ?_ ?_
    rotate_left
    · intro W hW; refine Eq.trans (exec_load_row' 24 _ (by rfl) (by rfl) qF hW _ Tryd.underlying24 rfl (poInfo _)) ?_; with_reducible rfl
    try simp only [Act.put, List.setIfInBounds_toArray, List.set_cons_zero, List.set_cons_succ]
    refine wpG_do (i := 2) (o := { dst := some 32, op := Op.call { callee := Callee.value (Operand.func 18), args := #[Operand.tmp 30, Operand.tmp 31], argTypes := #[3, 25] }, type := 22, pos := "law.go:64", after := #[{ on := 0, ground := Ground.data }, { on := 1, ground := Ground.data }], guard := none }) (by kernel_rfl) rfl (by rfl) fun K hK => ?_
    go_simp
    refine (spack_all D _ F HF.out rfl _).mono ?_
    rintro e y3 ⟨v3, rfl, x3, b3⟩
    obtain ⟨B, hB⟩ : ∃ B : List UInt8, B = pkA D F := ⟨_, rfl⟩
    rw [← hB] at x3
    have HB : Hid _ := hB
    clear hB
    replace qF := qF.kept b3
    replace ra := ra.kept b3
    replace rb := rb.kept b3
    replace hbw := stepB hbw b3
    refine hK.out _ _ b3 ?_
    clear hK K
    try simp only [Act.put, List.setIfInBounds_toArray, List.set_cons_zero, List.set_cons_succ]
    refine wpG_take (i := 3) (oi := { dst := some 33, op := Op.convert 22 9 (Operand.tmp 32), type := 9, pos := "law.go:64", after := #[{ on := 2, ground := Ground.data }], guard := none }) (v := ?_) rfl (by kernel_rfl) (by kernel_rfl) (by kernel_rfl) (by rfl) ?_ ?_
    rotate_left
    · intro W hW; have hcv := convS (x3.kept hW); first | (go_simp; done) | (go_simp; with_reducible rfl)
    try simp only [Act.put, List.setIfInBounds_toArray, List.set_cons_zero, List.set_cons_succ]
    refine wpG_do (i := 6) (o := { dst := some 36, op := Op.call { callee := Callee.value (Operand.func 19), args := #[Operand.tmp 34, Operand.tmp 35], argTypes := #[3, 24] }, type := 22, pos := "law.go:64", after := #[{ on := 4, ground := Ground.data }, { on := 5, ground := Ground.data }, { on := 2, ground := Ground.chain }], guard := none }) (by kernel_rfl) rfl (by rfl) fun K hK => ?_
    go_simp
    refine (pack12_all D _ F HF.out rfl _).mono ?_
    rintro e y4 ⟨v4, rfl, x4, b4⟩
    rw [← HB.out] at x4
    replace x3 := x3.kept b4
    replace qF := qF.kept b4
    replace ra := ra.kept b4
    replace rb := rb.kept b4
    replace hbw := stepB hbw b4
    refine hK.out _ _ b4 ?_
    clear hK K
    try simp only [Act.put, List.setIfInBounds_toArray, List.set_cons_zero, List.set_cons_succ]
    refine wpG_take (i := 7) (oi := { dst := some 37, op := Op.convert 22 9 (Operand.tmp 36), type := 9, pos := "law.go:64", after := #[{ on := 6, ground := Ground.data }], guard := none }) (v := ?_) rfl (by kernel_rfl) (by kernel_rfl) (by kernel_rfl) (by rfl) ?_ ?_
    rotate_left
    · intro W hW; have hcv := convS (x4.kept hW); first | (go_simp; done) | (go_simp; with_reducible rfl)
    try simp only [Act.put, List.setIfInBounds_toArray, List.set_cons_zero, List.set_cons_succ]
    refine wpG_take (i := 8) (oi := { dst := some 38, op := Op.binOp BinOp.eql 9 (Operand.tmp 33) (Operand.tmp 37) 9, type := 4, pos := "law.go:64", after := #[{ on := 3, ground := Ground.data }, { on := 7, ground := Ground.data }], guard := none }) (v := ?_) rfl (by kernel_rfl) (by kernel_rfl) (by kernel_rfl) (by rfl) ?_ ?_
    rotate_left
    · intro W hW; first | (go_simp; done) | (go_simp; with_reducible rfl)
    try simp only [Act.put, List.setIfInBounds_toArray, List.set_cons_zero, List.set_cons_succ]
    refine wpG_take (i := 9) (oi := { dst := some 39, op := Op.move (Operand.tmp 38), type := 4, pos := "law.go:64", after := #[{ on := 8, ground := Ground.data }, { on := 6, ground := Ground.chain }], guard := none }) (v := ?_) rfl (by kernel_rfl) (by kernel_rfl) (by kernel_rfl) (by rfl) ?_ ?_
    rotate_left
    · intro W hW; first | (go_simp; done) | (go_simp; with_reducible rfl)
    try simp only [Act.put, List.setIfInBounds_toArray, List.set_cons_zero, List.set_cons_succ]
    refine wpG_take (i := 10) (oi := { dst := some 40, op := Op.load 25 (Operand.tmp 8), type := 25, pos := "law.go:64", after := #[{ on := 9, ground := Ground.guard }], guard := some (9, true) }) (v := ?_) rfl (by kernel_rfl) (by kernel_rfl) (by kernel_rfl) (by rfl) ?_ ?_
    rotate_left
    · intro W hW; refine Eq.trans (exec_load_row' 25 _ (by rfl) (by rfl) ra hW _ Tryd.underlying25 rfl (poInfoS _)) ?_; with_reducible rfl
    try simp only [Act.put, List.setIfInBounds_toArray, List.set_cons_zero, List.set_cons_succ]
    refine wpG_take (i := 11) (oi := { dst := some 41, op := Op.load 24 (Operand.tmp 10), type := 24, pos := "law.go:64", after := #[{ on := 9, ground := Ground.guard }], guard := some (9, true) }) (v := ?_) rfl (by kernel_rfl) (by kernel_rfl) (by kernel_rfl) (by rfl) ?_ ?_
    rotate_left
    · intro W hW; refine Eq.trans (exec_load_row' 24 _ (by rfl) (by rfl) rb hW _ Tryd.underlying24 rfl (poInfo _)) ?_; with_reducible rfl
    try simp only [Act.put, List.setIfInBounds_toArray, List.set_cons_zero, List.set_cons_succ]
    refine wpG_take (i := 12) (oi := { dst := some 42, op := Op.binOp BinOp.eql 25 (Operand.tmp 40) (Operand.tmp 41) 25, type := 4, pos := "law.go:64", after := #[{ on := 10, ground := Ground.data }, { on := 11, ground := Ground.data }, { on := 9, ground := Ground.guard }], guard := some (9, true) }) (v := ?_) rfl (by kernel_rfl) (by kernel_rfl) (by kernel_rfl) (by rfl) ?_ ?_
    rotate_left
    · intro W hW; have qa := QA.out W; first | (go_simp; done) | (go_simp; with_reducible rfl)
    try simp only [Act.put, List.setIfInBounds_toArray, List.set_cons_zero, List.set_cons_succ]
    refine wpG_take (i := 13) (oi := { dst := some 43, op := Op.pick (Operand.tmp 39) (Operand.tmp 42) (Operand.const (Value.bool false)), type := 4, pos := "law.go:64", after := #[{ on := 9, ground := Ground.data }, { on := 12, ground := Ground.data }], guard := none }) (v := ?_) rfl (by kernel_rfl) (by kernel_rfl) (by kernel_rfl) (by rfl) ?_ ?_
    rotate_left
    · intro W hW; first | (go_simp; done) | (go_simp; with_reducible rfl)
    try simp only [Act.put, List.setIfInBounds_toArray, List.set_cons_zero, List.set_cons_succ]
    refine wpG_take (i := 14) (oi := { dst := some 44, op := Op.move (Operand.tmp 43), type := 4, pos := "law.go:64", after := #[{ on := 13, ground := Ground.data }, { on := 9, ground := Ground.chain }], guard := none }) (v := ?_) rfl (by kernel_rfl) (by kernel_rfl) (by kernel_rfl) (by rfl) ?_ ?_
    rotate_left
    · intro W hW; first | (go_simp; done) | (go_simp; with_reducible rfl)
    try simp only [Act.put, List.setIfInBounds_toArray, List.set_cons_zero, List.set_cons_succ]
    refine wpG_take (i := 15) (oi := { dst := some 45, op := Op.move (Operand.tmp 9), type := 29, pos := "law.go:64", after := #[{ on := 14, ground := Ground.guard }], guard := some (14, true) }) (v := ?_) rfl (by kernel_rfl) (by kernel_rfl) (by kernel_rfl) (by rfl) ?_ ?_
    rotate_left
    · intro W hW; first | (go_simp; done) | (go_simp; with_reducible rfl)
    try simp only [Act.put, List.setIfInBounds_toArray, List.set_cons_zero, List.set_cons_succ]
    refine wpG_take (i := 16) (oi := { dst := some 46, op := Op.move (Operand.tmp 11), type := 29, pos := "law.go:64", after := #[{ on := 14, ground := Ground.guard }], guard := some (14, true) }) (v := ?_) rfl (by kernel_rfl) (by kernel_rfl) (by kernel_rfl) (by rfl) ?_ ?_
    rotate_left
    · intro W hW; first | (go_simp; done) | (go_simp; with_reducible rfl)
    try simp only [Act.put, List.setIfInBounds_toArray, List.set_cons_zero, List.set_cons_succ]
    refine wpG_take (i := 17) (oi := { dst := some 47, op := Op.binOp BinOp.eql 29 (Operand.tmp 45) (Operand.tmp 46) 29, type := 4, pos := "law.go:64", after := #[{ on := 15, ground := Ground.data }, { on := 16, ground := Ground.data }, { on := 14, ground := Ground.guard }], guard := some (14, true) }) (v := ?_) rfl (by kernel_rfl) (by kernel_rfl) (by kernel_rfl) (by rfl) ?_ ?_
    rotate_left
    · intro W hW; first | (go_simp; done) | (go_simp; with_reducible rfl)
    try simp only [Act.put, List.setIfInBounds_toArray, List.set_cons_zero, List.set_cons_succ]
    refine wpG_take (i := 18) (oi := { dst := some 48, op := Op.pick (Operand.tmp 44) (Operand.tmp 47) (Operand.const (Value.bool false)), type := 4, pos := "law.go:64", after := #[{ on := 14, ground := Ground.data }, { on := 17, ground := Ground.data }], guard := none }) (v := ?_) rfl (by kernel_rfl) (by kernel_rfl) (by kernel_rfl) (by rfl) ?_ ?_
    rotate_left
    · intro W hW; first | (go_simp; done) | (go_simp; with_reducible rfl)
    try simp only [Act.put, List.setIfInBounds_toArray, List.set_cons_zero, List.set_cons_succ]
    refine wpG_take (i := 19) (oi := { dst := some 6, op := Op.assign (Operand.tmp 48), type := 4, pos := "law.go:64", after := #[{ on := 18, ground := Ground.data }, { on := 14, ground := Ground.chain }, { on := 0, ground := Ground.phase }, { on := 1, ground := Ground.phase }, { on := 2, ground := Ground.phase }, { on := 3, ground := Ground.phase }, { on := 4, ground := Ground.phase }, { on := 5, ground := Ground.phase }, { on := 6, ground := Ground.phase }, { on := 7, ground := Ground.phase }, { on := 8, ground := Ground.phase }, { on := 9, ground := Ground.phase }, { on := 10, ground := Ground.phase }, { on := 11, ground := Ground.phase }, { on := 12, ground := Ground.phase }, { on := 13, ground := Ground.phase }, { on := 14, ground := Ground.phase }, { on := 15, ground := Ground.phase }, { on := 16, ground := Ground.phase }, { on := 17, ground := Ground.phase }, { on := 18, ground := Ground.phase }], guard := none }) (v := ?_) rfl (by kernel_rfl) (by kernel_rfl) (by kernel_rfl) (by rfl) ?_ ?_
    rotate_left
    · intro W hW; first | (go_simp; done) | (go_simp; with_reducible rfl)
    try simp only [Act.put, List.setIfInBounds_toArray, List.set_cons_zero, List.set_cons_succ]
    refine wpG_done (by kernel_rfl) ?_
    go_wp2
    go_ret
    exact ⟨rfl, hbw⟩
  · have d1 : decide ((1000 : Int) < (l.length : Int)) = true := decide_eq_true (by omega)
    have d2 : (1000 : Int) < (l.length : Int) := by omega
    clear h
    go_wp2
    go_ret
    exact ⟨rfl, hbw⟩
end Go.Proofs.YtlcnepnappfjeaaDoor
