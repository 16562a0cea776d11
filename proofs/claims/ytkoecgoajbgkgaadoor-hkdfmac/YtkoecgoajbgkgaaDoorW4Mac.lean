/- What the law HkdfMac answers at every input: the walk. -/
import Derived.Test.YtkoecgoajbgkgaaDoorH04d
import Derived.Test.YtkoecgoajbgkgaaDoorRef04a
namespace Go.Proofs.YtkoecgoajbgkgaaDoor
open Go.ChangeShapes Go.WideShapes Go.ChangeAt Go.RowKit
set_option linter.unusedSimpArgs false
set_option linter.unusedVariables false

set_option maxRecDepth 100000 in
set_option maxHeartbeats 2000000 in
theorem mac_walk (vk vb : Value) (k b : List UInt8) (w : World) (hrk : Rd w vk k) (hrb : Rd w vb b) (ht : Tabs w) :
    Calls Tryd.prog 3 #[vk, vb] w fun e w' => e = .returned (.bool true) ∧ Below w.heap.size w w' := by
  obtain ⟨ak, ck, rfl, -, hmk, -, -⟩ := id hrk
  obtain ⟨ab, cb, rfl, -, hmb, -, -⟩ := id hrb
  unfold maxLen at hmk hmb
  by_cases hk : k.length ≤ 1000
  · have d1 : decide ((1000 : Int) < (k.length : Int)) = false := decide_eq_false (by omega)
    have g1 : (k.length : Int) ≤ 1000 := by omega
    by_cases hb : b.length ≤ 1000
    · have d2 : decide ((1000 : Int) < (b.length : Int)) = false := decide_eq_false (by omega)
      have g2 : (b.length : Int) ≤ 1000 := by omega
      have HK : Hid (k.length ≤ 1000) := hk
      have HL : Hid (b.length ≤ 1000) := hb
      clear hk hb
      go_enter Tryd.func3, Tryd.ntmps3
      go_wp2_with fail
      refine (awake_any _ ht).mono ?_
      rintro e w1 ⟨rfl, hB1⟩
      have hrk1 := hrk.kept hB1
      have hrb1 := hrb.kept hB1
      have ht1 := ht.kept hB1
      have hcv := convS hrk1
      clear hrk hrb ht
      go_wp2_with fail
      refine wpG_begin (by kernel_rfl) ?_
      refine wpG_take (i := 0) (oi := { dst := some 20, op := Op.move (Operand.tmp 0), type := 22, pos := "law.go:28", after := #[], guard := none }) (v := ?_) rfl (by kernel_rfl) (by kernel_rfl) (by kernel_rfl) (by rfl) ?_ ?_
      rotate_left
      · intro W hW; first | (go_simp; done) | (go_simp; with_reducible rfl)
      try simp only [Act.put, List.setIfInBounds_toArray, List.set_cons_zero, List.set_cons_succ]
      refine wpG_take (i := 1) (oi := { dst := some 21, op := Op.move (Operand.tmp 1), type := 22, pos := "law.go:28", after := #[], guard := none }) (v := ?_) rfl (by kernel_rfl) (by kernel_rfl) (by kernel_rfl) (by rfl) ?_ ?_
      rotate_left
      · intro W hW; first | (go_simp; done) | (go_simp; with_reducible rfl)
      try simp only [Act.put, List.setIfInBounds_toArray, List.set_cons_zero, List.set_cons_succ]
      refine wpG_take (i := 4) (oi := { dst := some 24, op := Op.move (Operand.tmp 0), type := 22, pos := "law.go:28", after := #[], guard := none }) (v := ?_) rfl (by kernel_rfl) (by kernel_rfl) (by kernel_rfl) (by rfl) ?_ ?_
      rotate_left
      · intro W hW; first | (go_simp; done) | (go_simp; with_reducible rfl)
      try simp only [Act.put, List.setIfInBounds_toArray, List.set_cons_zero, List.set_cons_succ]
      refine wpG_take (i := 5) (oi := { dst := some 25, op := Op.move (Operand.tmp 1), type := 22, pos := "law.go:28", after := #[], guard := none }) (v := ?_) rfl (by kernel_rfl) (by kernel_rfl) (by kernel_rfl) (by rfl) ?_ ?_
      rotate_left
      · intro W hW; first | (go_simp; done) | (go_simp; with_reducible rfl)
      try simp only [Act.put, List.setIfInBounds_toArray, List.set_cons_zero, List.set_cons_succ]
      refine wpG_do (i := 2) (o := { dst := some 22, op := Op.call { callee := Callee.value (Operand.func 9), args := #[Operand.tmp 20, Operand.tmp 21], argTypes := #[22, 22] }, type := 22, pos := "law.go:28", after := #[{ on := 0, ground := Ground.data }, { on := 1, ground := Ground.data }], guard := none }) (by kernel_rfl) rfl (by rfl) fun K hK => ?_
      go_simp
      refine (mac_any _ _ k b (by have := HL.out; omega) _ hrk1.drew hrb1.drew (ht1.kept (Below.refl _ _).drew)).mono ?_
      rintro e w2 ⟨v2, rfl, hN2⟩
      refine hK.out _ _ hN2.2 ?_
      clear hK K
      have hrk2 := hrk1.drew.kept hN2.2
      have hrb2 := hrb1.drew.kept hN2.2
      have hb2 := stepB hB1.drew hN2.2
      have hR2 := hN2.rd
      try simp only [Act.put, List.setIfInBounds_toArray, List.set_cons_zero, List.set_cons_succ]
      refine wpG_take (i := 3) (oi := { dst := some 23, op := Op.convert 22 9 (Operand.tmp 22), type := 9, pos := "law.go:28", after := #[{ on := 2, ground := Ground.data }], guard := none }) (v := ?_) rfl (by kernel_rfl) (by kernel_rfl) (by kernel_rfl) (by rfl) ?_ ?_
      rotate_left
      · intro W hW; have hcv := convS (hR2.kept hW); first | (go_simp; done) | (go_simp; with_reducible rfl)
      try simp only [Act.put, List.setIfInBounds_toArray, List.set_cons_zero, List.set_cons_succ]
      refine wpG_do (i := 6) (o := { dst := some 26, op := Op.call { callee := Callee.value (Operand.func 10), args := #[Operand.tmp 24, Operand.tmp 25], argTypes := #[22, 22] }, type := 22, pos := "law.go:28", after := #[{ on := 4, ground := Ground.data }, { on := 5, ground := Ground.data }, { on := 2, ground := Ground.chain }], guard := none }) (by kernel_rfl) rfl (by rfl) fun K hK => ?_
      go_simp
      refine (macR_any _ _ k b (by have := HK.out; omega) (by have := HL.out; omega) _ hrk2 hrb2).mono ?_
      rintro e w3 ⟨v3, rfl, hR3, hB3⟩
      refine hK.out _ _ hB3 ?_
      clear hK K
      have hb3 := stepB hb2 hB3
      have hrk3 := hrk2.kept hB3
      try simp only [Act.put, List.setIfInBounds_toArray, List.set_cons_zero, List.set_cons_succ]
      refine wpG_take (i := 7) (oi := { dst := some 27, op := Op.convert 22 9 (Operand.tmp 26), type := 9, pos := "law.go:28", after := #[{ on := 6, ground := Ground.data }], guard := none }) (v := ?_) rfl (by kernel_rfl) (by kernel_rfl) (by kernel_rfl) (by rfl) ?_ ?_
      rotate_left
      · intro W hW; have hcv := convS (hR3.kept hW); first | (go_simp; done) | (go_simp; with_reducible rfl)
      try simp only [Act.put, List.setIfInBounds_toArray, List.set_cons_zero, List.set_cons_succ]
      refine wpG_take (i := 8) (oi := { dst := some 28, op := Op.binOp BinOp.eql 9 (Operand.tmp 23) (Operand.tmp 27) 9, type := 4, pos := "law.go:28", after := #[{ on := 3, ground := Ground.data }, { on := 7, ground := Ground.data }], guard := none }) (v := ?_) rfl (by kernel_rfl) (by kernel_rfl) (by kernel_rfl) (by rfl) ?_ ?_
      rotate_left
      · intro W hW; first | (go_simp; done) | (go_simp; with_reducible rfl)
      try simp only [Act.put, List.setIfInBounds_toArray, List.set_cons_zero, List.set_cons_succ]
      refine wpG_take (i := 9) (oi := { dst := some 29, op := Op.move (Operand.tmp 28), type := 4, pos := "law.go:28", after := #[{ on := 8, ground := Ground.data }, { on := 6, ground := Ground.chain }], guard := none }) (v := ?_) rfl (by kernel_rfl) (by kernel_rfl) (by kernel_rfl) (by rfl) ?_ ?_
      rotate_left
      · intro W hW; first | (go_simp; done) | (go_simp; with_reducible rfl)
      try simp only [Act.put, List.setIfInBounds_toArray, List.set_cons_zero, List.set_cons_succ]
      refine wpG_take (i := 10) (oi := { dst := some 30, op := Op.move (Operand.tmp 0), type := 22, pos := "law.go:28", after := #[{ on := 9, ground := Ground.guard }], guard := some (9, true) }) (v := ?_) rfl (by kernel_rfl) (by kernel_rfl) (by kernel_rfl) (by rfl) ?_ ?_
      rotate_left
      · intro W hW; first | (go_simp; done) | (go_simp; with_reducible rfl)
      try simp only [Act.put, List.setIfInBounds_toArray, List.set_cons_zero, List.set_cons_succ]
      refine wpG_take (i := 11) (oi := { dst := some 31, op := Op.convert 22 9 (Operand.tmp 30), type := 9, pos := "law.go:28", after := #[{ on := 10, ground := Ground.data }, { on := 9, ground := Ground.guard }], guard := some (9, true) }) (v := ?_) rfl (by kernel_rfl) (by kernel_rfl) (by kernel_rfl) (by rfl) ?_ ?_
      rotate_left
      · intro W hW; have hcv := convS (hrk3.kept hW); first | (go_simp; done) | (go_simp; with_reducible rfl)
      try simp only [Act.put, List.setIfInBounds_toArray, List.set_cons_zero, List.set_cons_succ]
      refine wpG_take (i := 12) (oi := { dst := some 32, op := Op.move (Operand.tmp 6), type := 9, pos := "law.go:28", after := #[{ on := 9, ground := Ground.guard }], guard := some (9, true) }) (v := ?_) rfl (by kernel_rfl) (by kernel_rfl) (by kernel_rfl) (by rfl) ?_ ?_
      rotate_left
      · intro W hW; first | (go_simp; done) | (go_simp; with_reducible rfl)
      try simp only [Act.put, List.setIfInBounds_toArray, List.set_cons_zero, List.set_cons_succ]
      refine wpG_take (i := 13) (oi := { dst := some 33, op := Op.binOp BinOp.eql 9 (Operand.tmp 31) (Operand.tmp 32) 9, type := 4, pos := "law.go:28", after := #[{ on := 11, ground := Ground.data }, { on := 12, ground := Ground.data }, { on := 9, ground := Ground.guard }], guard := some (9, true) }) (v := ?_) rfl (by kernel_rfl) (by kernel_rfl) (by kernel_rfl) (by rfl) ?_ ?_
      rotate_left
      · intro W hW; first | (go_simp; done) | (go_simp; with_reducible rfl)
      try simp only [Act.put, List.setIfInBounds_toArray, List.set_cons_zero, List.set_cons_succ]
      refine wpG_take (i := 14) (oi := { dst := some 34, op := Op.pick (Operand.tmp 29) (Operand.tmp 33) (Operand.const (Value.bool false)), type := 4, pos := "law.go:28", after := #[{ on := 9, ground := Ground.data }, { on := 13, ground := Ground.data }], guard := none }) (v := ?_) rfl (by kernel_rfl) (by kernel_rfl) (by kernel_rfl) (by rfl) ?_ ?_
      rotate_left
      · intro W hW; first | (go_simp; done) | (go_simp; with_reducible rfl)
      try simp only [Act.put, List.setIfInBounds_toArray, List.set_cons_zero, List.set_cons_succ]
      refine wpG_take (i := 15) (oi := { dst := some 4, op := Op.assign (Operand.tmp 34), type := 4, pos := "law.go:28", after := #[{ on := 14, ground := Ground.data }, { on := 9, ground := Ground.chain }, { on := 0, ground := Ground.phase }, { on := 1, ground := Ground.phase }, { on := 2, ground := Ground.phase }, { on := 3, ground := Ground.phase }, { on := 4, ground := Ground.phase }, { on := 5, ground := Ground.phase }, { on := 6, ground := Ground.phase }, { on := 7, ground := Ground.phase }, { on := 8, ground := Ground.phase }, { on := 9, ground := Ground.phase }, { on := 10, ground := Ground.phase }, { on := 11, ground := Ground.phase }, { on := 12, ground := Ground.phase }, { on := 13, ground := Ground.phase }, { on := 14, ground := Ground.phase }], guard := none }) (v := ?_) rfl (by kernel_rfl) (by kernel_rfl) (by kernel_rfl) (by rfl) ?_ ?_
      rotate_left
      · intro W hW; first | (go_simp; done) | (go_simp; with_reducible rfl)
      try simp only [Act.put, List.setIfInBounds_toArray, List.set_cons_zero, List.set_cons_succ]
      refine wpG_done (by kernel_rfl) ?_
      go_wp2
      go_ret
      exact ⟨rfl, hb3⟩
    · have d2 : decide ((1000 : Int) < (b.length : Int)) = true := decide_eq_true (by omega)
      have g2 : (1000 : Int) < (b.length : Int) := by omega
      go_enter Tryd.func3, Tryd.ntmps3
      go_wp2_with fail
      refine (awake_any _ ht).mono ?_
      rintro e w1 ⟨rfl, hB1⟩
      go_wp2
      go_ret
      exact ⟨rfl, hB1⟩
  · have d1 : decide ((1000 : Int) < (k.length : Int)) = true := decide_eq_true (by omega)
    have g1 : (1000 : Int) < (k.length : Int) := by omega
    go_enter Tryd.func3, Tryd.ntmps3
    go_wp2_with fail
    refine (awake_any _ ht).mono ?_
    rintro e w1 ⟨rfl, hB1⟩
    go_wp2
    go_ret
    exact ⟨rfl, hB1⟩
end Go.Proofs.YtkoecgoajbgkgaaDoor
