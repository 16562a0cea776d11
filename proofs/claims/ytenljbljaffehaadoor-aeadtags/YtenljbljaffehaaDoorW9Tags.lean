/- What the law AeadTags answers at every input: the walk. -/
import Derived.Test.YtenljbljaffehaaDoorA09e
namespace Go.Proofs.YtenljbljaffehaaDoor
open Go.ChangeShapes Go.WideShapes Go.ChangeAt Go.RowKit
set_option linter.unusedSimpArgs false
set_option linter.unusedVariables false

set_option maxRecDepth 100000 in
set_option maxHeartbeats 4000000 in
theorem tags_walk (vk vn va vb : Value) (k n a b : List UInt8) (w : World) (hk : Rd w vk k) (hn : Rd w vn n) (ha : Rd w va a) (hb : Rd w vb b) (hp : PlT w) (ht : KpT w) :
    Calls Tryd.prog 6 #[vk, vn, va, vb] w fun e w' => e = .returned (.bool true) ∧ Below w.heap.size w w' := by
  obtain ⟨ak, ck, rfl, -, hmk, -, -⟩ := id hk
  obtain ⟨an, cn, rfl, -, hmn, -, -⟩ := id hn
  obtain ⟨aa, ca, rfl, -, hma, -, -⟩ := id ha
  obtain ⟨ab, cb, rfl, -, hmb, -, -⟩ := id hb
  unfold maxLen at hmk hmn hma hmb
  by_cases hla : a.length ≤ 1000
  · have da : decide ((1000 : Int) < (a.length : Int)) = false := decide_eq_false (by omega)
    by_cases hlb : b.length ≤ 1000
    · have db : decide ((1000 : Int) < (b.length : Int)) = false := decide_eq_false (by omega)
      have HLA : Hid (a.length ≤ 3000000) := by show _ ≤ _; omega
      have HLB : Hid (b.length ≤ 3000000) := by show _ ≤ _; omega
      clear hla hlb
      go_enter Tryd.func6, Tryd.ntmps6
      go_wp2_with fail
      refine (awake_any _ hp ht).mono ?_
      rintro e w1 ⟨rfl, b1⟩
      have HK : Hid (Rd w1 (.slice ak k.length ck) k) := hk.kept b1
      have HN : Hid (Rd w1 (.slice an n.length cn) n) := hn.kept b1
      have HA : Hid (Rd w1 (.slice aa a.length ca) a) := ha.kept b1
      have HB : Hid (Rd w1 (.slice ab b.length cb) b) := hb.kept b1
      have HP : Hid (PlT w1) := hp.kept b1
      have HT : Hid (KpT w1) := ht.kept b1
      have HB1 : Hid (Below w.heap.size w w1) := b1
      clear hk hn hp ht ha hb b1
      go_wp2_with fail
      refine (atag_all _ _ _ _ k n a b HLA.out HLB.out _ HP.out HT.out HK.out HN.out HA.out HB.out).mono ?_
      rintro e w2 ⟨v2, rfl, hN2⟩
      have HB2 : Hid (Below w.heap.size w w2) := stepB HB1.out hN2.2
      by_cases hf : fitN k n
      · have d1 : ((k.length : Int) != 32) = false := by have := hf.1; simp; omega
        have d2 : ((n.length : Int) != 12) = false := by have := hf.2; simp; omega
        rw [tgA_fit hf] at hN2 ⊢
        have x2 : Rd w2 v2 (tgL k n a b) := hN2.rd
        have HK2 : Hid (Rd w2 (.slice ak k.length ck) k) := HK.out.kept hN2.2
        have HN2 : Hid (Rd w2 (.slice an n.length cn) n) := HN.out.kept hN2.2
        have HA2 : Hid (Rd w2 (.slice aa a.length ca) a) := HA.out.kept hN2.2
        have HBB2 : Hid (Rd w2 (.slice ab b.length cb) b) := HB.out.kept hN2.2
        have HF : Hid (fitN k n) := hf
        have HX2 : Hid (Rd w2 v2 (tgL k n a b)) := x2
        obtain ⟨X, hX⟩ : ∃ X : List UInt8, X = tgL k n a b := ⟨_, rfl⟩
        rw [← hX] at HX2
        have HX : Hid (X = tgL k n a b) := hX
        have hXX : (X == X) = true := by simp
        clear hN2 hf x2 hX HK HN HA HB
        go_wp2_with fail
        refine wpG_begin (by kernel_rfl) ?_
        refine wpG_take (i := 0) (oi := { dst := some 46, op := Op.move (Operand.tmp 11), type := 24, pos := "law.go:104", after := #[], guard := none }) (v := ?_) rfl (by kernel_rfl) (by kernel_rfl) (by kernel_rfl) (by rfl) ?_ ?_
        rotate_left
        · intro W hW; first | (go_simp; done) | (go_simp; with_reducible rfl)
        try simp only [Act.put, List.setIfInBounds_toArray, List.set_cons_zero, List.set_cons_succ]
        refine wpG_take (i := 1) (oi := { dst := some 47, op := Op.binOp BinOp.eql 24 (Operand.tmp 46) (Operand.const (Value.int IntKind.i64 0)) 24, type := 4, pos := "law.go:104", after := #[{ on := 0, ground := Ground.data }], guard := none }) (v := ?_) rfl (by kernel_rfl) (by kernel_rfl) (by kernel_rfl) (by rfl) ?_ ?_
        rotate_left
        · intro W hW; first | (go_simp; done) | (go_simp; with_reducible rfl)
        try simp only [Act.put, List.setIfInBounds_toArray, List.set_cons_zero, List.set_cons_succ]
        refine wpG_take (i := 2) (oi := { dst := some 48, op := Op.move (Operand.tmp 47), type := 4, pos := "law.go:104", after := #[{ on := 1, ground := Ground.data }], guard := none }) (v := ?_) rfl (by kernel_rfl) (by kernel_rfl) (by kernel_rfl) (by rfl) ?_ ?_
        rotate_left
        · intro W hW; first | (go_simp; done) | (go_simp; with_reducible rfl)
        try simp only [Act.put, List.setIfInBounds_toArray, List.set_cons_zero, List.set_cons_succ]
        refine wpG_take (i := 3) (oi := { dst := some 49, op := Op.move (Operand.tmp 10), type := 22, pos := "law.go:104", after := #[{ on := 2, ground := Ground.guard }], guard := some (2, true) }) (v := ?_) rfl (by kernel_rfl) (by kernel_rfl) (by kernel_rfl) (by rfl) ?_ ?_
        rotate_left
        · intro W hW; first | (go_simp; done) | (go_simp; with_reducible rfl)
        try simp only [Act.put, List.setIfInBounds_toArray, List.set_cons_zero, List.set_cons_succ]
        refine wpG_take (i := 4) (oi := { dst := some 50, op := Op.convert 22 9 (Operand.tmp 49), type := 9, pos := "law.go:104", after := #[{ on := 3, ground := Ground.data }, { on := 2, ground := Ground.guard }], guard := some (2, true) }) (v := ?_) rfl (by kernel_rfl) (by kernel_rfl) (by kernel_rfl) (by rfl) ?_ ?_
        rotate_left
        · intro W hW; have hcv := conv_any ((Rd.drew HX2.out).kept hW); first | (go_simp; done) | (go_simp; with_reducible rfl)
        try simp only [Act.put, List.setIfInBounds_toArray, List.set_cons_zero, List.set_cons_succ]
        refine wpG_take (i := 5) (oi := { dst := some 51, op := Op.move (Operand.tmp 0), type := 22, pos := "law.go:104", after := #[{ on := 2, ground := Ground.guard }], guard := some (2, true) }) (v := ?_) rfl (by kernel_rfl) (by kernel_rfl) (by kernel_rfl) (by rfl) ?_ ?_
        rotate_left
        · intro W hW; first | (go_simp; done) | (go_simp; with_reducible rfl)
        try simp only [Act.put, List.setIfInBounds_toArray, List.set_cons_zero, List.set_cons_succ]
        refine wpG_take (i := 6) (oi := { dst := some 52, op := Op.move (Operand.tmp 1), type := 22, pos := "law.go:104", after := #[{ on := 2, ground := Ground.guard }], guard := some (2, true) }) (v := ?_) rfl (by kernel_rfl) (by kernel_rfl) (by kernel_rfl) (by rfl) ?_ ?_
        rotate_left
        · intro W hW; first | (go_simp; done) | (go_simp; with_reducible rfl)
        try simp only [Act.put, List.setIfInBounds_toArray, List.set_cons_zero, List.set_cons_succ]
        refine wpG_take (i := 7) (oi := { dst := some 53, op := Op.move (Operand.tmp 2), type := 22, pos := "law.go:104", after := #[{ on := 2, ground := Ground.guard }], guard := some (2, true) }) (v := ?_) rfl (by kernel_rfl) (by kernel_rfl) (by kernel_rfl) (by rfl) ?_ ?_
        rotate_left
        · intro W hW; first | (go_simp; done) | (go_simp; with_reducible rfl)
        try simp only [Act.put, List.setIfInBounds_toArray, List.set_cons_zero, List.set_cons_succ]
        refine wpG_take (i := 8) (oi := { dst := some 54, op := Op.move (Operand.tmp 3), type := 22, pos := "law.go:104", after := #[{ on := 2, ground := Ground.guard }], guard := some (2, true) }) (v := ?_) rfl (by kernel_rfl) (by kernel_rfl) (by kernel_rfl) (by rfl) ?_ ?_
        rotate_left
        · intro W hW; first | (go_simp; done) | (go_simp; with_reducible rfl)
        try simp only [Act.put, List.setIfInBounds_toArray, List.set_cons_zero, List.set_cons_succ]
        refine wpG_do (i := 9) (o := { dst := some 55, op := Op.call { callee := Callee.value (Operand.func 12), args := #[Operand.tmp 51, Operand.tmp 52, Operand.tmp 53, Operand.tmp 54], argTypes := #[22, 22, 22, 22] }, type := 22, pos := "law.go:104", after := #[{ on := 5, ground := Ground.data }, { on := 6, ground := Ground.data }, { on := 7, ground := Ground.data }, { on := 8, ground := Ground.data }, { on := 2, ground := Ground.chain }, { on := 2, ground := Ground.guard }], guard := some (2, true) }) (by kernel_rfl) rfl (by rfl) fun K hK => ?_
        go_simp
        refine (tagR_any _ _ _ _ k n a b HF.out.1 HF.out.2 HLA.out HLB.out _ (Rd.drew HK2.out) (Rd.drew HN2.out) (Rd.drew HA2.out) (Rd.drew HBB2.out)).mono ?_
        rintro e w3 ⟨v3, rfl, hN3⟩
        refine hK.out _ _ hN3.2 ?_
        clear hK K
        rw [← HX.out] at hN3
        have x3 := hN3.rd
        try simp only [Act.put, List.setIfInBounds_toArray, List.set_cons_zero, List.set_cons_succ]
        refine wpG_take (i := 10) (oi := { dst := some 56, op := Op.convert 22 9 (Operand.tmp 55), type := 9, pos := "law.go:104", after := #[{ on := 9, ground := Ground.data }, { on := 2, ground := Ground.guard }], guard := some (2, true) }) (v := ?_) rfl (by kernel_rfl) (by kernel_rfl) (by kernel_rfl) (by rfl) ?_ ?_
        rotate_left
        · intro W hW; have hcv := conv_any (x3.kept hW); first | (go_simp; done) | (go_simp; with_reducible rfl)
        try simp only [Act.put, List.setIfInBounds_toArray, List.set_cons_zero, List.set_cons_succ]
        refine wpG_take (i := 11) (oi := { dst := some 57, op := Op.binOp BinOp.eql 9 (Operand.tmp 50) (Operand.tmp 56) 9, type := 4, pos := "law.go:104", after := #[{ on := 4, ground := Ground.data }, { on := 10, ground := Ground.data }, { on := 2, ground := Ground.guard }], guard := some (2, true) }) (v := ?_) rfl (by kernel_rfl) (by kernel_rfl) (by kernel_rfl) (by rfl) ?_ ?_
        rotate_left
        · intro W hW; first | (go_simp; done) | (go_simp; with_reducible rfl)
        try simp only [Act.put, List.setIfInBounds_toArray, List.set_cons_zero, List.set_cons_succ]
        refine wpG_take (i := 12) (oi := { dst := some 58, op := Op.pick (Operand.tmp 48) (Operand.tmp 57) (Operand.const (Value.bool false)), type := 4, pos := "law.go:104", after := #[{ on := 2, ground := Ground.data }, { on := 11, ground := Ground.data }], guard := none }) (v := ?_) rfl (by kernel_rfl) (by kernel_rfl) (by kernel_rfl) (by rfl) ?_ ?_
        rotate_left
        · intro W hW; first | (go_simp; done) | (go_simp; with_reducible rfl)
        try simp only [Act.put, List.setIfInBounds_toArray, List.set_cons_zero, List.set_cons_succ]
        refine wpG_take (i := 13) (oi := { dst := some 8, op := Op.assign (Operand.tmp 58), type := 4, pos := "law.go:104", after := #[{ on := 12, ground := Ground.data }, { on := 9, ground := Ground.chain }, { on := 0, ground := Ground.phase }, { on := 1, ground := Ground.phase }, { on := 2, ground := Ground.phase }, { on := 3, ground := Ground.phase }, { on := 4, ground := Ground.phase }, { on := 5, ground := Ground.phase }, { on := 6, ground := Ground.phase }, { on := 7, ground := Ground.phase }, { on := 8, ground := Ground.phase }, { on := 9, ground := Ground.phase }, { on := 10, ground := Ground.phase }, { on := 11, ground := Ground.phase }, { on := 12, ground := Ground.phase }], guard := none }) (v := ?_) rfl (by kernel_rfl) (by kernel_rfl) (by kernel_rfl) (by rfl) ?_ ?_
        rotate_left
        · intro W hW; first | (go_simp; done) | (go_simp; with_reducible rfl)
        try simp only [Act.put, List.setIfInBounds_toArray, List.set_cons_zero, List.set_cons_succ]
        refine wpG_done (by kernel_rfl) ?_
        have HB3 : Hid (Below w.heap.size w w3) := stepB (Below.drew HB2.out) hN3.2
        clear hN3 x3
        go_wp2
        go_ret
        exact ⟨rfl, HB3.out⟩
      · rw [tgA_no hf] at hN2 ⊢
        obtain ⟨a2, c2, rfl, -⟩ := id hN2.rd
        by_cases h1 : k.length = 32
        · have d1 : ((k.length : Int) != 32) = false := by simp; omega
          have d2 : ((n.length : Int) != 12) = true := by simp; intro h; exact hf ⟨h1, by omega⟩
          clear hf h1
          go_wp2
          go_ret
          exact ⟨rfl, HB2.out⟩
        · have d1 : ((k.length : Int) != 32) = true := by simp; omega
          clear hf h1
          go_wp2
          go_ret
          exact ⟨rfl, HB2.out⟩
    · have db : decide ((1000 : Int) < (b.length : Int)) = true := decide_eq_true (by omega)
      go_enter Tryd.func6, Tryd.ntmps6
      go_wp2_with fail
      refine (awake_any _ hp ht).mono ?_
      rintro e w1 ⟨rfl, b1⟩
      go_wp2
      go_ret
      exact ⟨rfl, b1⟩
  · have da : decide ((1000 : Int) < (a.length : Int)) = true := decide_eq_true (by omega)
    go_enter Tryd.func6, Tryd.ntmps6
    go_wp2_with fail
    refine (awake_any _ hp ht).mono ?_
    rintro e w1 ⟨rfl, b1⟩
    go_wp2
    go_ret
    exact ⟨rfl, b1⟩
end Go.Proofs.YtenljbljaffehaaDoor
