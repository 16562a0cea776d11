/- What the law ChachaBlocks answers at every input: the walk. -/
import Derived.Test.YtlggnknblfclkaaDoorC07e
namespace Go.Proofs.YtlggnknblfclkaaDoor
open Go.ChangeShapes Go.WideShapes Go.ChangeAt Go.RowKit
set_option linter.unusedSimpArgs false
set_option linter.unusedVariables false

set_option maxRecDepth 100000 in
set_option maxHeartbeats 2000000 in
theorem blocks_walk (vk vn : Value) (k n : List UInt8) (C : Int) (hC : (Lit.int .u32 C).wf = true) (w : World) (hk : Rd w vk k) (hn : Rd w vn n) (ht : PlT w) :
    Calls Tryd.prog 4 #[vk, .int .u32 C, vn] w fun e w' => e = .returned (.bool true) ∧ Below w.heap.size w w' := by
  obtain ⟨c, rfl, hc⟩ := nat_u32 hC
  have ec : IntKind.u64.wrap (c : Int) = (c : Int) := by rw [IntKind.wrap_u64]; omega
  have HC : Hid _ := hc
  clear hC
  go_enter Tryd.func4, Tryd.ntmps4
  go_wp2_with fail
  refine (awake_any _ ht).mono ?_
  rintro e w1 ⟨rfl, b1⟩
  have HK : Hid (Rd w1 vk k) := hk.kept b1
  have HN : Hid (Rd w1 vn n) := hn.kept b1
  have HT : Hid (PlT w1) := ht.kept b1
  clear hk hn ht
  by_cases h : k.length = 32 ∧ n.length = 12
  · obtain ⟨hk32, hn12⟩ := h
    go_wp2_with fail
    refine wpG_begin (by kernel_rfl) ?_
    refine wpG_take (i := 0) (oi := { dst := some 9, op := Op.move (Operand.tmp 7), type := 4, pos := "law.go:33", after := #[], guard := none }) (v := ?_) rfl (by kernel_rfl) (by kernel_rfl) (by kernel_rfl) (by rfl) ?_ ?_
    rotate_left
    · intro W hW; first | (go_simp; done) | (go_simp; with_reducible rfl)
    try simp only [Act.put, List.setIfInBounds_toArray, List.set_cons_zero, List.set_cons_succ]
    refine wpG_take (i := 1) (oi := { dst := some 10, op := Op.move (Operand.tmp 9), type := 4, pos := "law.go:33", after := #[{ on := 0, ground := Ground.data }], guard := none }) (v := ?_) rfl (by kernel_rfl) (by kernel_rfl) (by kernel_rfl) (by rfl) ?_ ?_
    rotate_left
    · intro W hW; first | (go_simp; done) | (go_simp; with_reducible rfl)
    try simp only [Act.put, List.setIfInBounds_toArray, List.set_cons_zero, List.set_cons_succ]
    refine wpG_take (i := 2) (oi := { dst := some 11, op := Op.move (Operand.tmp 0), type := 30, pos := "law.go:33", after := #[{ on := 1, ground := Ground.guard }], guard := some (1, true) }) (v := ?_) rfl (by kernel_rfl) (by kernel_rfl) (by kernel_rfl) (by rfl) ?_ ?_
    rotate_left
    · intro W hW; first | (go_simp; done) | (go_simp; with_reducible rfl)
    try simp only [Act.put, List.setIfInBounds_toArray, List.set_cons_zero, List.set_cons_succ]
    refine wpG_take (i := 3) (oi := { dst := some 12, op := Op.move (Operand.tmp 1), type := 22, pos := "law.go:33", after := #[{ on := 1, ground := Ground.guard }], guard := some (1, true) }) (v := ?_) rfl (by kernel_rfl) (by kernel_rfl) (by kernel_rfl) (by rfl) ?_ ?_
    rotate_left
    · intro W hW; first | (go_simp; done) | (go_simp; with_reducible rfl)
    try simp only [Act.put, List.setIfInBounds_toArray, List.set_cons_zero, List.set_cons_succ]
    refine wpG_take (i := 4) (oi := { dst := some 13, op := Op.move (Operand.tmp 2), type := 30, pos := "law.go:33", after := #[{ on := 1, ground := Ground.guard }], guard := some (1, true) }) (v := ?_) rfl (by kernel_rfl) (by kernel_rfl) (by kernel_rfl) (by rfl) ?_ ?_
    rotate_left
    · intro W hW; first | (go_simp; done) | (go_simp; with_reducible rfl)
    try simp only [Act.put, List.setIfInBounds_toArray, List.set_cons_zero, List.set_cons_succ]
    refine wpG_take (i := 7) (oi := { dst := some 16, op := Op.move (Operand.tmp 0), type := 30, pos := "law.go:33", after := #[{ on := 1, ground := Ground.guard }], guard := some (1, true) }) (v := ?_) rfl (by kernel_rfl) (by kernel_rfl) (by kernel_rfl) (by rfl) ?_ ?_
    rotate_left
    · intro W hW; first | (go_simp; done) | (go_simp; with_reducible rfl)
    try simp only [Act.put, List.setIfInBounds_toArray, List.set_cons_zero, List.set_cons_succ]
    refine wpG_take (i := 8) (oi := { dst := some 17, op := Op.move (Operand.tmp 1), type := 22, pos := "law.go:33", after := #[{ on := 1, ground := Ground.guard }], guard := some (1, true) }) (v := ?_) rfl (by kernel_rfl) (by kernel_rfl) (by kernel_rfl) (by rfl) ?_ ?_
    rotate_left
    · intro W hW; first | (go_simp; done) | (go_simp; with_reducible rfl)
    try simp only [Act.put, List.setIfInBounds_toArray, List.set_cons_zero, List.set_cons_succ]
    refine wpG_take (i := 9) (oi := { dst := some 18, op := Op.convert 22 26 (Operand.tmp 17), type := 26, pos := "law.go:33", after := #[{ on := 8, ground := Ground.data }, { on := 1, ground := Ground.guard }], guard := some (1, true) }) (v := ?_) rfl (by kernel_rfl) (by kernel_rfl) (by kernel_rfl) (by rfl) ?_ ?_
    rotate_left
    · intro W hW; first | (go_simp; done) | (go_simp; with_reducible rfl)
    try simp only [Act.put, List.setIfInBounds_toArray, List.set_cons_zero, List.set_cons_succ]
    refine wpG_take (i := 10) (oi := { dst := some 19, op := Op.move (Operand.tmp 2), type := 30, pos := "law.go:33", after := #[{ on := 1, ground := Ground.guard }], guard := some (1, true) }) (v := ?_) rfl (by kernel_rfl) (by kernel_rfl) (by kernel_rfl) (by rfl) ?_ ?_
    rotate_left
    · intro W hW; first | (go_simp; done) | (go_simp; with_reducible rfl)
    try simp only [Act.put, List.setIfInBounds_toArray, List.set_cons_zero, List.set_cons_succ]
    refine wpG_do (i := 5) (o := { dst := some 14, op := Op.call { callee := Callee.value (Operand.func 11), args := #[Operand.tmp 11, Operand.tmp 12, Operand.tmp 13], argTypes := #[30, 22, 30] }, type := 30, pos := "law.go:33", after := #[{ on := 2, ground := Ground.data }, { on := 3, ground := Ground.data }, { on := 4, ground := Ground.data }, { on := 1, ground := Ground.chain }, { on := 1, ground := Ground.guard }], guard := some (1, true) }) (by kernel_rfl) rfl (by rfl) fun K hK => ?_
    go_simp
    refine (block_any _ _ k n c _ rfl HC.out _ (PlT.kept HT.out (Below.refl _ _).drew) (Rd.drew HK.out) (Rd.drew HN.out) hk32 hn12).mono ?_
    rintro e w2 ⟨v2, rfl, hN2⟩
    refine hK.out _ _ hN2.2 ?_
    clear hK K
    have hk2 := (Rd.drew HK.out).kept hN2.2
    have hn2 := (Rd.drew HN.out).kept hN2.2
    have hb2 := stepB b1.drew hN2.2
    have hR2 := hN2.rd
    try simp only [Act.put, List.setIfInBounds_toArray, List.set_cons_zero, List.set_cons_succ]
    refine wpG_take (i := 6) (oi := { dst := some 15, op := Op.convert 30 9 (Operand.tmp 14), type := 9, pos := "law.go:33", after := #[{ on := 5, ground := Ground.data }, { on := 1, ground := Ground.guard }], guard := some (1, true) }) (v := ?_) rfl (by kernel_rfl) (by kernel_rfl) (by kernel_rfl) (by rfl) ?_ ?_
    rotate_left
    · intro W hW; have hcv := conv_any (hR2.kept hW); first | (go_simp; done) | (go_simp; with_reducible rfl)
    try simp only [Act.put, List.setIfInBounds_toArray, List.set_cons_zero, List.set_cons_succ]
    refine wpG_do (i := 11) (o := { dst := some 20, op := Op.call { callee := Callee.value (Operand.func 12), args := #[Operand.tmp 16, Operand.tmp 18, Operand.tmp 19], argTypes := #[30, 26, 30] }, type := 30, pos := "law.go:33", after := #[{ on := 7, ground := Ground.data }, { on := 9, ground := Ground.data }, { on := 10, ground := Ground.data }, { on := 5, ground := Ground.chain }, { on := 1, ground := Ground.guard }], guard := some (1, true) }) (by kernel_rfl) rfl (by rfl) fun K hK => ?_
    go_simp
    refine (blockR_any _ _ k n c _ rfl (by have := HC.out; omega) _ hk2 hn2 hk32 hn12).mono ?_
    rintro e w3 ⟨v3, rfl, hN3⟩
    refine hK.out _ _ hN3.2 ?_
    clear hK K
    have hb3 := stepB hb2 hN3.2
    have hR3 := hN3.rd
    try simp only [Act.put, List.setIfInBounds_toArray, List.set_cons_zero, List.set_cons_succ]
    refine wpG_take (i := 12) (oi := { dst := some 21, op := Op.convert 30 9 (Operand.tmp 20), type := 9, pos := "law.go:33", after := #[{ on := 11, ground := Ground.data }, { on := 1, ground := Ground.guard }], guard := some (1, true) }) (v := ?_) rfl (by kernel_rfl) (by kernel_rfl) (by kernel_rfl) (by rfl) ?_ ?_
    rotate_left
    · intro W hW; have hcv := conv_any (hR3.kept hW); first | (go_simp; done) | (go_simp; with_reducible rfl)
    try simp only [Act.put, List.setIfInBounds_toArray, List.set_cons_zero, List.set_cons_succ]
    refine wpG_take (i := 13) (oi := { dst := some 22, op := Op.binOp BinOp.eql 9 (Operand.tmp 15) (Operand.tmp 21) 9, type := 4, pos := "law.go:33", after := #[{ on := 6, ground := Ground.data }, { on := 12, ground := Ground.data }, { on := 1, ground := Ground.guard }], guard := some (1, true) }) (v := ?_) rfl (by kernel_rfl) (by kernel_rfl) (by kernel_rfl) (by rfl) ?_ ?_
    rotate_left
    · intro W hW; first | (go_simp; done) | (go_simp; with_reducible rfl)
    try simp only [Act.put, List.setIfInBounds_toArray, List.set_cons_zero, List.set_cons_succ]
    refine wpG_take (i := 14) (oi := { dst := some 23, op := Op.pick (Operand.tmp 10) (Operand.tmp 22) (Operand.const (Value.bool false)), type := 4, pos := "law.go:33", after := #[{ on := 1, ground := Ground.data }, { on := 13, ground := Ground.data }], guard := none }) (v := ?_) rfl (by kernel_rfl) (by kernel_rfl) (by kernel_rfl) (by rfl) ?_ ?_
    rotate_left
    · intro W hW; first | (go_simp; done) | (go_simp; with_reducible rfl)
    try simp only [Act.put, List.setIfInBounds_toArray, List.set_cons_zero, List.set_cons_succ]
    refine wpG_take (i := 15) (oi := { dst := some 6, op := Op.assign (Operand.tmp 23), type := 4, pos := "law.go:33", after := #[{ on := 14, ground := Ground.data }, { on := 11, ground := Ground.chain }, { on := 0, ground := Ground.phase }, { on := 1, ground := Ground.phase }, { on := 2, ground := Ground.phase }, { on := 3, ground := Ground.phase }, { on := 4, ground := Ground.phase }, { on := 5, ground := Ground.phase }, { on := 6, ground := Ground.phase }, { on := 7, ground := Ground.phase }, { on := 8, ground := Ground.phase }, { on := 9, ground := Ground.phase }, { on := 10, ground := Ground.phase }, { on := 11, ground := Ground.phase }, { on := 12, ground := Ground.phase }, { on := 13, ground := Ground.phase }, { on := 14, ground := Ground.phase }], guard := none }) (v := ?_) rfl (by kernel_rfl) (by kernel_rfl) (by kernel_rfl) (by rfl) ?_ ?_
    rotate_left
    · intro W hW; first | (go_simp; done) | (go_simp; with_reducible rfl)
    try simp only [Act.put, List.setIfInBounds_toArray, List.set_cons_zero, List.set_cons_succ]
    refine wpG_done (by kernel_rfl) ?_
    go_wp2
    go_ret
    exact ⟨rfl, hb3⟩
  · have H : Hid _ := h
    clear h
    go_wp2_with fail
    refine wpG_begin (by kernel_rfl) ?_
    refine wpG_take (i := 0) (oi := { dst := some 9, op := Op.move (Operand.tmp 7), type := 4, pos := "law.go:33", after := #[], guard := none }) (v := ?_) rfl (by kernel_rfl) (by kernel_rfl) (by kernel_rfl) (by rfl) ?_ ?_
    rotate_left
    · intro W hW; first | (go_simp; done) | (go_simp; with_reducible rfl)
    try simp only [Act.put, List.setIfInBounds_toArray, List.set_cons_zero, List.set_cons_succ]
    refine wpG_take (i := 1) (oi := { dst := some 10, op := Op.move (Operand.tmp 9), type := 4, pos := "law.go:33", after := #[{ on := 0, ground := Ground.data }], guard := none }) (v := ?_) rfl (by kernel_rfl) (by kernel_rfl) (by kernel_rfl) (by rfl) ?_ ?_
    rotate_left
    · intro W hW; first | (go_simp; done) | (go_simp; with_reducible rfl)
    try simp only [Act.put, List.setIfInBounds_toArray, List.set_cons_zero, List.set_cons_succ]
    refine wpG_take (i := 2) (oi := { dst := some 11, op := Op.move (Operand.tmp 0), type := 30, pos := "law.go:33", after := #[{ on := 1, ground := Ground.guard }], guard := some (1, true) }) (v := ?_) rfl (by kernel_rfl) (by kernel_rfl) (by kernel_rfl) (by rfl) ?_ ?_
    rotate_left
    · intro W hW; first | (go_simp; done) | (go_simp; with_reducible rfl)
    try simp only [Act.put, List.setIfInBounds_toArray, List.set_cons_zero, List.set_cons_succ]
    refine wpG_take (i := 3) (oi := { dst := some 12, op := Op.move (Operand.tmp 1), type := 22, pos := "law.go:33", after := #[{ on := 1, ground := Ground.guard }], guard := some (1, true) }) (v := ?_) rfl (by kernel_rfl) (by kernel_rfl) (by kernel_rfl) (by rfl) ?_ ?_
    rotate_left
    · intro W hW; first | (go_simp; done) | (go_simp; with_reducible rfl)
    try simp only [Act.put, List.setIfInBounds_toArray, List.set_cons_zero, List.set_cons_succ]
    refine wpG_take (i := 4) (oi := { dst := some 13, op := Op.move (Operand.tmp 2), type := 30, pos := "law.go:33", after := #[{ on := 1, ground := Ground.guard }], guard := some (1, true) }) (v := ?_) rfl (by kernel_rfl) (by kernel_rfl) (by kernel_rfl) (by rfl) ?_ ?_
    rotate_left
    · intro W hW; first | (go_simp; done) | (go_simp; with_reducible rfl)
    try simp only [Act.put, List.setIfInBounds_toArray, List.set_cons_zero, List.set_cons_succ]
    refine wpG_take (i := 7) (oi := { dst := some 16, op := Op.move (Operand.tmp 0), type := 30, pos := "law.go:33", after := #[{ on := 1, ground := Ground.guard }], guard := some (1, true) }) (v := ?_) rfl (by kernel_rfl) (by kernel_rfl) (by kernel_rfl) (by rfl) ?_ ?_
    rotate_left
    · intro W hW; first | (go_simp; done) | (go_simp; with_reducible rfl)
    try simp only [Act.put, List.setIfInBounds_toArray, List.set_cons_zero, List.set_cons_succ]
    refine wpG_take (i := 8) (oi := { dst := some 17, op := Op.move (Operand.tmp 1), type := 22, pos := "law.go:33", after := #[{ on := 1, ground := Ground.guard }], guard := some (1, true) }) (v := ?_) rfl (by kernel_rfl) (by kernel_rfl) (by kernel_rfl) (by rfl) ?_ ?_
    rotate_left
    · intro W hW; first | (go_simp; done) | (go_simp; with_reducible rfl)
    try simp only [Act.put, List.setIfInBounds_toArray, List.set_cons_zero, List.set_cons_succ]
    refine wpG_take (i := 9) (oi := { dst := some 18, op := Op.convert 22 26 (Operand.tmp 17), type := 26, pos := "law.go:33", after := #[{ on := 8, ground := Ground.data }, { on := 1, ground := Ground.guard }], guard := some (1, true) }) (v := ?_) rfl (by kernel_rfl) (by kernel_rfl) (by kernel_rfl) (by rfl) ?_ ?_
    rotate_left
    · intro W hW; first | (go_simp; done) | (go_simp; with_reducible rfl)
    try simp only [Act.put, List.setIfInBounds_toArray, List.set_cons_zero, List.set_cons_succ]
    refine wpG_take (i := 10) (oi := { dst := some 19, op := Op.move (Operand.tmp 2), type := 30, pos := "law.go:33", after := #[{ on := 1, ground := Ground.guard }], guard := some (1, true) }) (v := ?_) rfl (by kernel_rfl) (by kernel_rfl) (by kernel_rfl) (by rfl) ?_ ?_
    rotate_left
    · intro W hW; first | (go_simp; done) | (go_simp; with_reducible rfl)
    try simp only [Act.put, List.setIfInBounds_toArray, List.set_cons_zero, List.set_cons_succ]
    refine wpG_do (i := 5) (o := { dst := some 14, op := Op.call { callee := Callee.value (Operand.func 11), args := #[Operand.tmp 11, Operand.tmp 12, Operand.tmp 13], argTypes := #[30, 22, 30] }, type := 30, pos := "law.go:33", after := #[{ on := 2, ground := Ground.data }, { on := 3, ground := Ground.data }, { on := 4, ground := Ground.data }, { on := 1, ground := Ground.chain }, { on := 1, ground := Ground.guard }], guard := some (1, true) }) (by kernel_rfl) rfl (by rfl) fun K hK => ?_
    go_simp
    refine (block_arg _ _ k n _ _ (Rd.drew HK.out) (Rd.drew HN.out) H.out).mono ?_
    rintro e w2 ⟨rfl, rfl⟩
    refine hK.out _ _ (Below.refl _ _) ?_
    clear hK K
    try simp only [Act.put, List.setIfInBounds_toArray, List.set_cons_zero, List.set_cons_succ]
    refine wpG_take (i := 6) (oi := { dst := some 15, op := Op.convert 30 9 (Operand.tmp 14), type := 9, pos := "law.go:33", after := #[{ on := 5, ground := Ground.data }, { on := 1, ground := Ground.guard }], guard := some (1, true) }) (v := ?_) rfl (by kernel_rfl) (by kernel_rfl) (by kernel_rfl) (by rfl) ?_ ?_
    rotate_left
    · intro W hW; have hcv := conv_any (Rd.nil W); first | (go_simp; done) | (go_simp; with_reducible rfl)
    try simp only [Act.put, List.setIfInBounds_toArray, List.set_cons_zero, List.set_cons_succ]
    refine wpG_do (i := 11) (o := { dst := some 20, op := Op.call { callee := Callee.value (Operand.func 12), args := #[Operand.tmp 16, Operand.tmp 18, Operand.tmp 19], argTypes := #[30, 26, 30] }, type := 30, pos := "law.go:33", after := #[{ on := 7, ground := Ground.data }, { on := 9, ground := Ground.data }, { on := 10, ground := Ground.data }, { on := 5, ground := Ground.chain }, { on := 1, ground := Ground.guard }], guard := some (1, true) }) (by kernel_rfl) rfl (by rfl) fun K hK => ?_
    go_simp
    refine (blockR_arg _ _ k n _ _ (Rd.drew HK.out) (Rd.drew HN.out) H.out).mono ?_
    rintro e w3 ⟨rfl, rfl⟩
    refine hK.out _ _ (Below.refl _ _) ?_
    clear hK K
    try simp only [Act.put, List.setIfInBounds_toArray, List.set_cons_zero, List.set_cons_succ]
    refine wpG_take (i := 12) (oi := { dst := some 21, op := Op.convert 30 9 (Operand.tmp 20), type := 9, pos := "law.go:33", after := #[{ on := 11, ground := Ground.data }, { on := 1, ground := Ground.guard }], guard := some (1, true) }) (v := ?_) rfl (by kernel_rfl) (by kernel_rfl) (by kernel_rfl) (by rfl) ?_ ?_
    rotate_left
    · intro W hW; have hcv := conv_any (Rd.nil W); first | (go_simp; done) | (go_simp; with_reducible rfl)
    try simp only [Act.put, List.setIfInBounds_toArray, List.set_cons_zero, List.set_cons_succ]
    refine wpG_take (i := 13) (oi := { dst := some 22, op := Op.binOp BinOp.eql 9 (Operand.tmp 15) (Operand.tmp 21) 9, type := 4, pos := "law.go:33", after := #[{ on := 6, ground := Ground.data }, { on := 12, ground := Ground.data }, { on := 1, ground := Ground.guard }], guard := some (1, true) }) (v := ?_) rfl (by kernel_rfl) (by kernel_rfl) (by kernel_rfl) (by rfl) ?_ ?_
    rotate_left
    · intro W hW; first | (go_simp; done) | (go_simp; with_reducible rfl)
    try simp only [Act.put, List.setIfInBounds_toArray, List.set_cons_zero, List.set_cons_succ]
    refine wpG_take (i := 14) (oi := { dst := some 23, op := Op.pick (Operand.tmp 10) (Operand.tmp 22) (Operand.const (Value.bool false)), type := 4, pos := "law.go:33", after := #[{ on := 1, ground := Ground.data }, { on := 13, ground := Ground.data }], guard := none }) (v := ?_) rfl (by kernel_rfl) (by kernel_rfl) (by kernel_rfl) (by rfl) ?_ ?_
    rotate_left
    · intro W hW; first | (go_simp; done) | (go_simp; with_reducible rfl)
    try simp only [Act.put, List.setIfInBounds_toArray, List.set_cons_zero, List.set_cons_succ]
    refine wpG_take (i := 15) (oi := { dst := some 6, op := Op.assign (Operand.tmp 23), type := 4, pos := "law.go:33", after := #[{ on := 14, ground := Ground.data }, { on := 11, ground := Ground.chain }, { on := 0, ground := Ground.phase }, { on := 1, ground := Ground.phase }, { on := 2, ground := Ground.phase }, { on := 3, ground := Ground.phase }, { on := 4, ground := Ground.phase }, { on := 5, ground := Ground.phase }, { on := 6, ground := Ground.phase }, { on := 7, ground := Ground.phase }, { on := 8, ground := Ground.phase }, { on := 9, ground := Ground.phase }, { on := 10, ground := Ground.phase }, { on := 11, ground := Ground.phase }, { on := 12, ground := Ground.phase }, { on := 13, ground := Ground.phase }, { on := 14, ground := Ground.phase }], guard := none }) (v := ?_) rfl (by kernel_rfl) (by kernel_rfl) (by kernel_rfl) (by rfl) ?_ ?_
    rotate_left
    · intro W hW; first | (go_simp; done) | (go_simp; with_reducible rfl)
    try simp only [Act.put, List.setIfInBounds_toArray, List.set_cons_zero, List.set_cons_succ]
    refine wpG_done (by kernel_rfl) ?_
    go_wp2
    go_ret
    exact ⟨rfl, b1.drew⟩
end Go.Proofs.YtlggnknblfclkaaDoor
