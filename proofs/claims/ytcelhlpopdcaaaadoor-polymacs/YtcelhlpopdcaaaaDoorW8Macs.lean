/- What the law PolyMacs answers at every input: the walk. -/
import Derived.Test.YtcelhlpopdcaaaaDoorP08g
namespace Go.Proofs.YtcelhlpopdcaaaaDoor
open Go.ChangeShapes Go.WideShapes Go.ChangeAt Go.RowKit
set_option linter.unusedSimpArgs false
set_option linter.unusedVariables false

set_option maxRecDepth 100000 in
set_option maxHeartbeats 4000000 in
theorem macs_walk (vk vb : Value) (k b : List UInt8) (w : World) (hk : Rd w vk k) (hb : Rd w vb b) (ht : KpT w) :
    Calls Tryd.prog 3 #[vk, vb] w fun e w' => e = .returned (.bool true) ∧ Below w.heap.size w w' := by
  obtain ⟨ab, cb, rfl, -, hmb, -, -⟩ := id hb
  unfold maxLen at hmb
  by_cases hbl : b.length ≤ 2000
  · have d1 : decide ((2000 : Int) < (b.length : Int)) = false := decide_eq_false (by omega)
    have g1 : (b.length : Int) ≤ 2000 := by omega
    have HL : Hid (b.length ≤ 2000) := hbl
    clear hbl
    go_enter Tryd.func3, Tryd.ntmps3
    go_wp2_with fail
    refine (awake_any _ ht).mono ?_
    rintro e w1 ⟨rfl, b1⟩
    have HK : Hid (Rd w1 vk k) := hk.kept b1
    have HB : Hid (Rd w1 (.slice ab b.length cb) b) := hb.kept b1
    have HT : Hid (KpT w1) := ht.kept b1
    have HB1 : Hid _ := b1
    clear hk ht hb b1
    go_wp2_with fail
    refine wpG_begin (by kernel_rfl) ?_
    refine wpG_take (i := 0) (oi := { dst := some 12, op := Op.move (Operand.tmp 0), type := 22, pos := "law.go:32", after := #[], guard := none }) (v := ?_) rfl (by kernel_rfl) (by kernel_rfl) (by kernel_rfl) (by rfl) ?_ ?_
    rotate_left
    · intro W hW; first | (go_simp; done) | (go_simp; with_reducible rfl)
    try simp only [Act.put, List.setIfInBounds_toArray, List.set_cons_zero, List.set_cons_succ]
    refine wpG_take (i := 1) (oi := { dst := some 13, op := Op.move (Operand.tmp 1), type := 22, pos := "law.go:32", after := #[], guard := none }) (v := ?_) rfl (by kernel_rfl) (by kernel_rfl) (by kernel_rfl) (by rfl) ?_ ?_
    rotate_left
    · intro W hW; first | (go_simp; done) | (go_simp; with_reducible rfl)
    try simp only [Act.put, List.setIfInBounds_toArray, List.set_cons_zero, List.set_cons_succ]
    refine wpG_take (i := 4) (oi := { dst := some 16, op := Op.move (Operand.tmp 0), type := 22, pos := "law.go:32", after := #[], guard := none }) (v := ?_) rfl (by kernel_rfl) (by kernel_rfl) (by kernel_rfl) (by rfl) ?_ ?_
    rotate_left
    · intro W hW; first | (go_simp; done) | (go_simp; with_reducible rfl)
    try simp only [Act.put, List.setIfInBounds_toArray, List.set_cons_zero, List.set_cons_succ]
    refine wpG_take (i := 5) (oi := { dst := some 17, op := Op.move (Operand.tmp 1), type := 22, pos := "law.go:32", after := #[], guard := none }) (v := ?_) rfl (by kernel_rfl) (by kernel_rfl) (by kernel_rfl) (by rfl) ?_ ?_
    rotate_left
    · intro W hW; first | (go_simp; done) | (go_simp; with_reducible rfl)
    try simp only [Act.put, List.setIfInBounds_toArray, List.set_cons_zero, List.set_cons_succ]
    refine wpG_do (i := 2) (o := { dst := some 14, op := Op.call { callee := Callee.value (Operand.func 9), args := #[Operand.tmp 12, Operand.tmp 13], argTypes := #[22, 22] }, type := 22, pos := "law.go:32", after := #[{ on := 0, ground := Ground.data }, { on := 1, ground := Ground.data }], guard := none }) (by kernel_rfl) rfl (by rfl) fun K hK => ?_
    go_simp
    refine (mac_all _ _ k b _ (KpT.kept HT.out (Below.refl _ _).drew) (Rd.drew HK.out) (Rd.drew HB.out)).mono ?_
    rintro e w3 ⟨v3, rfl, hN3⟩
    refine hK.out _ _ hN3.2 ?_
    clear hK K
    have k3 := (Rd.drew HK.out).kept hN3.2
    have m3 := (Rd.drew HB.out).kept hN3.2
    have x3 := hN3.rd
    try simp only [Act.put, List.setIfInBounds_toArray, List.set_cons_zero, List.set_cons_succ]
    refine wpG_take (i := 3) (oi := { dst := some 15, op := Op.convert 22 9 (Operand.tmp 14), type := 9, pos := "law.go:32", after := #[{ on := 2, ground := Ground.data }], guard := none }) (v := ?_) rfl (by kernel_rfl) (by kernel_rfl) (by kernel_rfl) (by rfl) ?_ ?_
    rotate_left
    · intro W hW; have hcv := conv_any (x3.kept hW); first | (go_simp; done) | (go_simp; with_reducible rfl)
    try simp only [Act.put, List.setIfInBounds_toArray, List.set_cons_zero, List.set_cons_succ]
    refine wpG_do (i := 6) (o := { dst := some 18, op := Op.call { callee := Callee.value (Operand.func 10), args := #[Operand.tmp 16, Operand.tmp 17], argTypes := #[22, 22] }, type := 22, pos := "law.go:32", after := #[{ on := 4, ground := Ground.data }, { on := 5, ground := Ground.data }, { on := 2, ground := Ground.chain }], guard := none }) (by kernel_rfl) rfl (by rfl) fun K hK => ?_
    go_simp
    refine (macR_all _ _ k b _ k3 m3 (by have := HL.out; omega)).mono ?_
    rintro e w4 ⟨v4, rfl, hN4⟩
    refine hK.out _ _ hN4.2 ?_
    clear hK K
    have x4 := hN4.rd
    try simp only [Act.put, List.setIfInBounds_toArray, List.set_cons_zero, List.set_cons_succ]
    refine wpG_take (i := 7) (oi := { dst := some 19, op := Op.convert 22 9 (Operand.tmp 18), type := 9, pos := "law.go:32", after := #[{ on := 6, ground := Ground.data }], guard := none }) (v := ?_) rfl (by kernel_rfl) (by kernel_rfl) (by kernel_rfl) (by rfl) ?_ ?_
    rotate_left
    · intro W hW; have hcv := conv_any (x4.kept hW); first | (go_simp; done) | (go_simp; with_reducible rfl)
    try simp only [Act.put, List.setIfInBounds_toArray, List.set_cons_zero, List.set_cons_succ]
    refine wpG_take (i := 8) (oi := { dst := some 20, op := Op.binOp BinOp.eql 9 (Operand.tmp 15) (Operand.tmp 19) 9, type := 4, pos := "law.go:32", after := #[{ on := 3, ground := Ground.data }, { on := 7, ground := Ground.data }], guard := none }) (v := ?_) rfl (by kernel_rfl) (by kernel_rfl) (by kernel_rfl) (by rfl) ?_ ?_
    rotate_left
    · intro W hW; first | (go_simp; done) | (go_simp; with_reducible rfl)
    try simp only [Act.put, List.setIfInBounds_toArray, List.set_cons_zero, List.set_cons_succ]
    refine wpG_take (i := 9) (oi := { dst := some 4, op := Op.assign (Operand.tmp 20), type := 4, pos := "law.go:32", after := #[{ on := 8, ground := Ground.data }, { on := 6, ground := Ground.chain }, { on := 0, ground := Ground.phase }, { on := 1, ground := Ground.phase }, { on := 2, ground := Ground.phase }, { on := 3, ground := Ground.phase }, { on := 4, ground := Ground.phase }, { on := 5, ground := Ground.phase }, { on := 6, ground := Ground.phase }, { on := 7, ground := Ground.phase }, { on := 8, ground := Ground.phase }], guard := none }) (v := ?_) rfl (by kernel_rfl) (by kernel_rfl) (by kernel_rfl) (by rfl) ?_ ?_
    rotate_left
    · intro W hW; first | (go_simp; done) | (go_simp; with_reducible rfl)
    try simp only [Act.put, List.setIfInBounds_toArray, List.set_cons_zero, List.set_cons_succ]
    refine wpG_done (by kernel_rfl) ?_
    have HB4 : Hid _ := stepB (stepB (Below.drew HB1.out) hN3.2) hN4.2
    clear k3 m3 x3 x4 hN3 hN4
    go_wp2
    go_ret
    exact ⟨rfl, HB4.out⟩
  · have d1 : decide ((2000 : Int) < (b.length : Int)) = true := decide_eq_true (by omega)
    have g1 : (2000 : Int) < (b.length : Int) := by omega
    go_enter Tryd.func3, Tryd.ntmps3
    go_wp2_with fail
    refine (awake_any _ ht).mono ?_
    rintro e w1 ⟨rfl, b1⟩
    go_wp2
    go_ret
    exact ⟨rfl, b1⟩
end Go.Proofs.YtcelhlpopdcaaaaDoor
