/- What the law AeadSeals answers at every input: the walk. -/
import Derived.Test.YtenljbljaffehaaDoorA09e
namespace Go.Proofs.YtenljbljaffehaaDoor
open Go.ChangeShapes Go.WideShapes Go.ChangeAt Go.RowKit
set_option linter.unusedSimpArgs false
set_option linter.unusedVariables false

set_option maxRecDepth 100000 in
set_option maxHeartbeats 4000000 in
theorem seals_walk (vk vn va vb : Value) (k n a b : List UInt8) (w : World) (hk : Rd w vk k) (hn : Rd w vn n) (ha : Rd w va a) (hb : Rd w vb b) (hp : PlT w) (ht : KpT w) :
    Calls Tryd.prog 3 #[vk, vn, va, vb] w fun e w' => e = .returned (.bool true) ∧ Below w.heap.size w w' := by
  obtain ⟨aa, ca, rfl, -, hma, -, -⟩ := id ha
  obtain ⟨ab, cb, rfl, -, hmb, -, -⟩ := id hb
  unfold maxLen at hma hmb
  by_cases hla : a.length ≤ 1000
  · have da : decide ((1000 : Int) < (a.length : Int)) = false := decide_eq_false (by omega)
    by_cases hlb : b.length ≤ 1000
    · have db : decide ((1000 : Int) < (b.length : Int)) = false := decide_eq_false (by omega)
      have HLA : Hid (a.length ≤ 3000000) := by show _ ≤ _; omega
      have HLB : Hid (b.length ≤ 3000000) := by show _ ≤ _; omega
      clear hla hlb
      go_enter Tryd.func3, Tryd.ntmps3
      go_wp2_with fail
      refine (awake_any _ hp ht).mono ?_
      rintro e w1 ⟨rfl, b1⟩
      have HK : Hid (Rd w1 vk k) := hk.kept b1
      have HN : Hid (Rd w1 vn n) := hn.kept b1
      have HA : Hid (Rd w1 (.slice aa a.length ca) a) := ha.kept b1
      have HB : Hid (Rd w1 (.slice ab b.length cb) b) := hb.kept b1
      have HP : Hid (PlT w1) := hp.kept b1
      have HT : Hid (KpT w1) := ht.kept b1
      have HB1 : Hid (Below w.heap.size w w1) := b1
      clear hk hn hp ht ha hb b1
      go_wp2_with fail
      refine (aseal_all _ _ _ _ k n a b HLA.out HLB.out _ HP.out HT.out HK.out HN.out HA.out HB.out).mono ?_
      rintro e w2 ⟨v2, rfl, hN2⟩
      have c2 := hN2.2
      have x2 := hN2.rd
      go_wp2_with fail
      refine (sealR_all _ _ _ _ k n a b HLA.out HLB.out _ (HK.out.kept c2) (HN.out.kept c2) (HA.out.kept c2) (HB.out.kept c2)).mono ?_
      rintro e w3 ⟨v3, rfl, hN3⟩
      have c3 := stepB c2 hN3.2
      replace x2 := x2.kept hN3.2
      have x3 := hN3.rd
      go_wp2_with fail
      refine (atag_all _ _ _ _ k n a b HLA.out HLB.out _ (HP.out.kept c3) (HT.out.kept c3) (HK.out.kept c3) (HN.out.kept c3) (HA.out.kept c3) (HB.out.kept c3)).mono ?_
      rintro e w4 ⟨v4, rfl, hN4⟩
      have c4 := stepB c3 hN4.2
      replace x2 := x2.kept hN4.2
      replace x3 := x3.kept hN4.2
      have x4 := hN4.rd
      have HB4 : Hid (Below w.heap.size w w4) := stepB HB1.out c4
      clear hN2 hN3 hN4 c2 c3
      by_cases hf : fitN k n
      · rw [seA_fit hf] at x2 x3 ⊢
        rw [tgA_fit hf] at x4 ⊢
        have HK2 : Hid (Rd w4 vk k) := HK.out.kept c4
        have HN2 : Hid (Rd w4 vn n) := HN.out.kept c4
        have HA2 : Hid (Rd w4 (.slice aa a.length ca) a) := HA.out.kept c4
        have HBB2 : Hid (Rd w4 (.slice ab b.length cb) b) := HB.out.kept c4
        have HF : Hid (fitN k n) := hf
        have HX2 : Hid (Rd w4 v2 (seL k n a b)) := x2
        have HX3 : Hid (Rd w4 v3 (seL k n a b)) := x3
        have HX4 : Hid (Rd w4 v4 (tgL k n a b)) := x4
        obtain ⟨Y, hY⟩ : ∃ Y : List UInt8, Y = seL k n a b := ⟨_, rfl⟩
        rw [← hY] at HX2 HX3
        obtain ⟨X, hX⟩ : ∃ X : List UInt8, X = tgL k n a b := ⟨_, rfl⟩
        rw [← hX] at HX4
        have HX : Hid (X = tgL k n a b) := hX
        have hXX : (X == X) = true := by simp
        have hYY : (Y == Y) = true := by simp
        clear hf x2 x3 x4 hX hY HK HN HA HB c4
        go_wp2_with fail
        refine wpG_begin (by kernel_rfl) ?_
        refine wpG_take (i := 0) (oi := { dst := some 71, op := Op.move (Operand.tmp 11), type := 24, pos := "law.go:41", after := #[], guard := none }) (v := ?_) rfl (by kernel_rfl) (by kernel_rfl) (by kernel_rfl) (by rfl) ?_ ?_
        rotate_left
        · intro W hW; first | (go_simp; done) | (go_simp; with_reducible rfl)
        try simp only [Act.put, List.setIfInBounds_toArray, List.set_cons_zero, List.set_cons_succ]
        refine wpG_take (i := 1) (oi := { dst := some 72, op := Op.move (Operand.tmp 13), type := 24, pos := "law.go:41", after := #[], guard := none }) (v := ?_) rfl (by kernel_rfl) (by kernel_rfl) (by kernel_rfl) (by rfl) ?_ ?_
        rotate_left
        · intro W hW; first | (go_simp; done) | (go_simp; with_reducible rfl)
        try simp only [Act.put, List.setIfInBounds_toArray, List.set_cons_zero, List.set_cons_succ]
        refine wpG_take (i := 2) (oi := { dst := some 73, op := Op.binOp BinOp.eql 24 (Operand.tmp 71) (Operand.tmp 72) 24, type := 4, pos := "law.go:41", after := #[{ on := 0, ground := Ground.data }, { on := 1, ground := Ground.data }], guard := none }) (v := ?_) rfl (by kernel_rfl) (by kernel_rfl) (by kernel_rfl) (by rfl) ?_ ?_
        rotate_left
        · intro W hW; first | (go_simp; done) | (go_simp; with_reducible rfl)
        try simp only [Act.put, List.setIfInBounds_toArray, List.set_cons_zero, List.set_cons_succ]
        refine wpG_take (i := 3) (oi := { dst := some 74, op := Op.move (Operand.tmp 73), type := 4, pos := "law.go:41", after := #[{ on := 2, ground := Ground.data }], guard := none }) (v := ?_) rfl (by kernel_rfl) (by kernel_rfl) (by kernel_rfl) (by rfl) ?_ ?_
        rotate_left
        · intro W hW; first | (go_simp; done) | (go_simp; with_reducible rfl)
        try simp only [Act.put, List.setIfInBounds_toArray, List.set_cons_zero, List.set_cons_succ]
        refine wpG_take (i := 4) (oi := { dst := some 75, op := Op.move (Operand.tmp 10), type := 22, pos := "law.go:41", after := #[{ on := 3, ground := Ground.guard }], guard := some (3, true) }) (v := ?_) rfl (by kernel_rfl) (by kernel_rfl) (by kernel_rfl) (by rfl) ?_ ?_
        rotate_left
        · intro W hW; first | (go_simp; done) | (go_simp; with_reducible rfl)
        try simp only [Act.put, List.setIfInBounds_toArray, List.set_cons_zero, List.set_cons_succ]
        refine wpG_take (i := 5) (oi := { dst := some 76, op := Op.convert 22 9 (Operand.tmp 75), type := 9, pos := "law.go:41", after := #[{ on := 4, ground := Ground.data }, { on := 3, ground := Ground.guard }], guard := some (3, true) }) (v := ?_) rfl (by kernel_rfl) (by kernel_rfl) (by kernel_rfl) (by rfl) ?_ ?_
        rotate_left
        · intro W hW; have hcv := conv_any ((Rd.drew HX2.out).kept hW); first | (go_simp; done) | (go_simp; with_reducible rfl)
        try simp only [Act.put, List.setIfInBounds_toArray, List.set_cons_zero, List.set_cons_succ]
        refine wpG_take (i := 6) (oi := { dst := some 77, op := Op.move (Operand.tmp 12), type := 22, pos := "law.go:41", after := #[{ on := 3, ground := Ground.guard }], guard := some (3, true) }) (v := ?_) rfl (by kernel_rfl) (by kernel_rfl) (by kernel_rfl) (by rfl) ?_ ?_
        rotate_left
        · intro W hW; first | (go_simp; done) | (go_simp; with_reducible rfl)
        try simp only [Act.put, List.setIfInBounds_toArray, List.set_cons_zero, List.set_cons_succ]
        refine wpG_take (i := 7) (oi := { dst := some 78, op := Op.convert 22 9 (Operand.tmp 77), type := 9, pos := "law.go:41", after := #[{ on := 6, ground := Ground.data }, { on := 3, ground := Ground.guard }], guard := some (3, true) }) (v := ?_) rfl (by kernel_rfl) (by kernel_rfl) (by kernel_rfl) (by rfl) ?_ ?_
        rotate_left
        · intro W hW; have hcv := conv_any ((Rd.drew HX3.out).kept hW); first | (go_simp; done) | (go_simp; with_reducible rfl)
        try simp only [Act.put, List.setIfInBounds_toArray, List.set_cons_zero, List.set_cons_succ]
        refine wpG_take (i := 8) (oi := { dst := some 79, op := Op.binOp BinOp.eql 9 (Operand.tmp 76) (Operand.tmp 78) 9, type := 4, pos := "law.go:41", after := #[{ on := 5, ground := Ground.data }, { on := 7, ground := Ground.data }, { on := 3, ground := Ground.guard }], guard := some (3, true) }) (v := ?_) rfl (by kernel_rfl) (by kernel_rfl) (by kernel_rfl) (by rfl) ?_ ?_
        rotate_left
        · intro W hW; first | (go_simp; done) | (go_simp; with_reducible rfl)
        try simp only [Act.put, List.setIfInBounds_toArray, List.set_cons_zero, List.set_cons_succ]
        refine wpG_take (i := 9) (oi := { dst := some 80, op := Op.pick (Operand.tmp 74) (Operand.tmp 79) (Operand.const (Value.bool false)), type := 4, pos := "law.go:41", after := #[{ on := 3, ground := Ground.data }, { on := 8, ground := Ground.data }], guard := none }) (v := ?_) rfl (by kernel_rfl) (by kernel_rfl) (by kernel_rfl) (by rfl) ?_ ?_
        rotate_left
        · intro W hW; first | (go_simp; done) | (go_simp; with_reducible rfl)
        try simp only [Act.put, List.setIfInBounds_toArray, List.set_cons_zero, List.set_cons_succ]
        refine wpG_take (i := 10) (oi := { dst := some 81, op := Op.move (Operand.tmp 80), type := 4, pos := "law.go:41", after := #[{ on := 9, ground := Ground.data }, { on := 3, ground := Ground.chain }], guard := none }) (v := ?_) rfl (by kernel_rfl) (by kernel_rfl) (by kernel_rfl) (by rfl) ?_ ?_
        rotate_left
        · intro W hW; first | (go_simp; done) | (go_simp; with_reducible rfl)
        try simp only [Act.put, List.setIfInBounds_toArray, List.set_cons_zero, List.set_cons_succ]
        refine wpG_take (i := 11) (oi := { dst := some 82, op := Op.move (Operand.tmp 15), type := 24, pos := "law.go:41", after := #[{ on := 10, ground := Ground.guard }], guard := some (10, true) }) (v := ?_) rfl (by kernel_rfl) (by kernel_rfl) (by kernel_rfl) (by rfl) ?_ ?_
        rotate_left
        · intro W hW; first | (go_simp; done) | (go_simp; with_reducible rfl)
        try simp only [Act.put, List.setIfInBounds_toArray, List.set_cons_zero, List.set_cons_succ]
        refine wpG_take (i := 12) (oi := { dst := some 83, op := Op.binOp BinOp.eql 24 (Operand.tmp 82) (Operand.const (Value.int IntKind.i64 0)) 24, type := 4, pos := "law.go:41", after := #[{ on := 11, ground := Ground.data }, { on := 10, ground := Ground.guard }], guard := some (10, true) }) (v := ?_) rfl (by kernel_rfl) (by kernel_rfl) (by kernel_rfl) (by rfl) ?_ ?_
        rotate_left
        · intro W hW; first | (go_simp; done) | (go_simp; with_reducible rfl)
        try simp only [Act.put, List.setIfInBounds_toArray, List.set_cons_zero, List.set_cons_succ]
        refine wpG_take (i := 13) (oi := { dst := some 84, op := Op.pick (Operand.tmp 81) (Operand.tmp 83) (Operand.const (Value.bool false)), type := 4, pos := "law.go:41", after := #[{ on := 10, ground := Ground.data }, { on := 12, ground := Ground.data }], guard := none }) (v := ?_) rfl (by kernel_rfl) (by kernel_rfl) (by kernel_rfl) (by rfl) ?_ ?_
        rotate_left
        · intro W hW; first | (go_simp; done) | (go_simp; with_reducible rfl)
        try simp only [Act.put, List.setIfInBounds_toArray, List.set_cons_zero, List.set_cons_succ]
        refine wpG_take (i := 14) (oi := { dst := some 85, op := Op.move (Operand.tmp 84), type := 4, pos := "law.go:41", after := #[{ on := 13, ground := Ground.data }, { on := 10, ground := Ground.chain }], guard := none }) (v := ?_) rfl (by kernel_rfl) (by kernel_rfl) (by kernel_rfl) (by rfl) ?_ ?_
        rotate_left
        · intro W hW; first | (go_simp; done) | (go_simp; with_reducible rfl)
        try simp only [Act.put, List.setIfInBounds_toArray, List.set_cons_zero, List.set_cons_succ]
        refine wpG_take (i := 15) (oi := { dst := some 86, op := Op.move (Operand.tmp 14), type := 22, pos := "law.go:41", after := #[{ on := 14, ground := Ground.guard }], guard := some (14, true) }) (v := ?_) rfl (by kernel_rfl) (by kernel_rfl) (by kernel_rfl) (by rfl) ?_ ?_
        rotate_left
        · intro W hW; first | (go_simp; done) | (go_simp; with_reducible rfl)
        try simp only [Act.put, List.setIfInBounds_toArray, List.set_cons_zero, List.set_cons_succ]
        refine wpG_take (i := 16) (oi := { dst := some 87, op := Op.convert 22 9 (Operand.tmp 86), type := 9, pos := "law.go:41", after := #[{ on := 15, ground := Ground.data }, { on := 14, ground := Ground.guard }], guard := some (14, true) }) (v := ?_) rfl (by kernel_rfl) (by kernel_rfl) (by kernel_rfl) (by rfl) ?_ ?_
        rotate_left
        · intro W hW; have hcv := conv_any ((Rd.drew HX4.out).kept hW); first | (go_simp; done) | (go_simp; with_reducible rfl)
        try simp only [Act.put, List.setIfInBounds_toArray, List.set_cons_zero, List.set_cons_succ]
        refine wpG_take (i := 17) (oi := { dst := some 88, op := Op.move (Operand.tmp 0), type := 22, pos := "law.go:41", after := #[{ on := 14, ground := Ground.guard }], guard := some (14, true) }) (v := ?_) rfl (by kernel_rfl) (by kernel_rfl) (by kernel_rfl) (by rfl) ?_ ?_
        rotate_left
        · intro W hW; first | (go_simp; done) | (go_simp; with_reducible rfl)
        try simp only [Act.put, List.setIfInBounds_toArray, List.set_cons_zero, List.set_cons_succ]
        refine wpG_take (i := 18) (oi := { dst := some 89, op := Op.move (Operand.tmp 1), type := 22, pos := "law.go:41", after := #[{ on := 14, ground := Ground.guard }], guard := some (14, true) }) (v := ?_) rfl (by kernel_rfl) (by kernel_rfl) (by kernel_rfl) (by rfl) ?_ ?_
        rotate_left
        · intro W hW; first | (go_simp; done) | (go_simp; with_reducible rfl)
        try simp only [Act.put, List.setIfInBounds_toArray, List.set_cons_zero, List.set_cons_succ]
        refine wpG_take (i := 19) (oi := { dst := some 90, op := Op.move (Operand.tmp 2), type := 22, pos := "law.go:41", after := #[{ on := 14, ground := Ground.guard }], guard := some (14, true) }) (v := ?_) rfl (by kernel_rfl) (by kernel_rfl) (by kernel_rfl) (by rfl) ?_ ?_
        rotate_left
        · intro W hW; first | (go_simp; done) | (go_simp; with_reducible rfl)
        try simp only [Act.put, List.setIfInBounds_toArray, List.set_cons_zero, List.set_cons_succ]
        refine wpG_take (i := 20) (oi := { dst := some 91, op := Op.move (Operand.tmp 3), type := 22, pos := "law.go:41", after := #[{ on := 14, ground := Ground.guard }], guard := some (14, true) }) (v := ?_) rfl (by kernel_rfl) (by kernel_rfl) (by kernel_rfl) (by rfl) ?_ ?_
        rotate_left
        · intro W hW; first | (go_simp; done) | (go_simp; with_reducible rfl)
        try simp only [Act.put, List.setIfInBounds_toArray, List.set_cons_zero, List.set_cons_succ]
        refine wpG_do (i := 21) (o := { dst := some 92, op := Op.call { callee := Callee.value (Operand.func 12), args := #[Operand.tmp 88, Operand.tmp 89, Operand.tmp 90, Operand.tmp 91], argTypes := #[22, 22, 22, 22] }, type := 22, pos := "law.go:41", after := #[{ on := 17, ground := Ground.data }, { on := 18, ground := Ground.data }, { on := 19, ground := Ground.data }, { on := 20, ground := Ground.data }, { on := 14, ground := Ground.chain }, { on := 14, ground := Ground.guard }], guard := some (14, true) }) (by kernel_rfl) rfl (by rfl) fun K hK => ?_
        go_simp
        refine (tagR_any _ _ _ _ k n a b HF.out.1 HF.out.2 HLA.out HLB.out _ (Rd.drew HK2.out) (Rd.drew HN2.out) (Rd.drew HA2.out) (Rd.drew HBB2.out)).mono ?_
        rintro e w5 ⟨v5, rfl, hN5⟩
        refine hK.out _ _ hN5.2 ?_
        clear hK K
        rw [← HX.out] at hN5
        have x5 := hN5.rd
        try simp only [Act.put, List.setIfInBounds_toArray, List.set_cons_zero, List.set_cons_succ]
        refine wpG_take (i := 22) (oi := { dst := some 93, op := Op.convert 22 9 (Operand.tmp 92), type := 9, pos := "law.go:41", after := #[{ on := 21, ground := Ground.data }, { on := 14, ground := Ground.guard }], guard := some (14, true) }) (v := ?_) rfl (by kernel_rfl) (by kernel_rfl) (by kernel_rfl) (by rfl) ?_ ?_
        rotate_left
        · intro W hW; have hcv := conv_any (x5.kept hW); first | (go_simp; done) | (go_simp; with_reducible rfl)
        try simp only [Act.put, List.setIfInBounds_toArray, List.set_cons_zero, List.set_cons_succ]
        refine wpG_take (i := 23) (oi := { dst := some 94, op := Op.binOp BinOp.eql 9 (Operand.tmp 87) (Operand.tmp 93) 9, type := 4, pos := "law.go:41", after := #[{ on := 16, ground := Ground.data }, { on := 22, ground := Ground.data }, { on := 14, ground := Ground.guard }], guard := some (14, true) }) (v := ?_) rfl (by kernel_rfl) (by kernel_rfl) (by kernel_rfl) (by rfl) ?_ ?_
        rotate_left
        · intro W hW; first | (go_simp; done) | (go_simp; with_reducible rfl)
        try simp only [Act.put, List.setIfInBounds_toArray, List.set_cons_zero, List.set_cons_succ]
        refine wpG_take (i := 24) (oi := { dst := some 95, op := Op.pick (Operand.tmp 85) (Operand.tmp 94) (Operand.const (Value.bool false)), type := 4, pos := "law.go:41", after := #[{ on := 14, ground := Ground.data }, { on := 23, ground := Ground.data }], guard := none }) (v := ?_) rfl (by kernel_rfl) (by kernel_rfl) (by kernel_rfl) (by rfl) ?_ ?_
        rotate_left
        · intro W hW; first | (go_simp; done) | (go_simp; with_reducible rfl)
        try simp only [Act.put, List.setIfInBounds_toArray, List.set_cons_zero, List.set_cons_succ]
        refine wpG_take (i := 25) (oi := { dst := some 8, op := Op.assign (Operand.tmp 95), type := 4, pos := "law.go:41", after := #[{ on := 24, ground := Ground.data }, { on := 21, ground := Ground.chain }, { on := 0, ground := Ground.phase }, { on := 1, ground := Ground.phase }, { on := 2, ground := Ground.phase }, { on := 3, ground := Ground.phase }, { on := 4, ground := Ground.phase }, { on := 5, ground := Ground.phase }, { on := 6, ground := Ground.phase }, { on := 7, ground := Ground.phase }, { on := 8, ground := Ground.phase }, { on := 9, ground := Ground.phase }, { on := 10, ground := Ground.phase }, { on := 11, ground := Ground.phase }, { on := 12, ground := Ground.phase }, { on := 13, ground := Ground.phase }, { on := 14, ground := Ground.phase }, { on := 15, ground := Ground.phase }, { on := 16, ground := Ground.phase }, { on := 17, ground := Ground.phase }, { on := 18, ground := Ground.phase }, { on := 19, ground := Ground.phase }, { on := 20, ground := Ground.phase }, { on := 21, ground := Ground.phase }, { on := 22, ground := Ground.phase }, { on := 23, ground := Ground.phase }, { on := 24, ground := Ground.phase }], guard := none }) (v := ?_) rfl (by kernel_rfl) (by kernel_rfl) (by kernel_rfl) (by rfl) ?_ ?_
        rotate_left
        · intro W hW; first | (go_simp; done) | (go_simp; with_reducible rfl)
        try simp only [Act.put, List.setIfInBounds_toArray, List.set_cons_zero, List.set_cons_succ]
        refine wpG_done (by kernel_rfl) ?_
        have HB5 : Hid (Below w.heap.size w w5) := stepB (Below.drew HB4.out) hN5.2
        clear hN5 x5
        go_wp2
        go_ret
        exact ⟨rfl, HB5.out⟩
      · rw [seA_no hf] at x2 x3 ⊢
        rw [tgA_no hf] at x4 ⊢
        obtain ⟨a2, q2, rfl, -⟩ := id x2
        obtain ⟨a4, q4, rfl, -⟩ := id x4
        clear hf x2 x3 x4 c4
        go_wp2
        go_ret
        exact ⟨rfl, HB4.out⟩
    · have db : decide ((1000 : Int) < (b.length : Int)) = true := decide_eq_true (by omega)
      go_enter Tryd.func3, Tryd.ntmps3
      go_wp2_with fail
      refine (awake_any _ hp ht).mono ?_
      rintro e w1 ⟨rfl, b1⟩
      go_wp2
      go_ret
      exact ⟨rfl, b1⟩
  · have da : decide ((1000 : Int) < (a.length : Int)) = true := decide_eq_true (by omega)
    go_enter Tryd.func3, Tryd.ntmps3
    go_wp2_with fail
    refine (awake_any _ hp ht).mono ?_
    rintro e w1 ⟨rfl, b1⟩
    go_wp2
    go_ret
    exact ⟨rfl, b1⟩
end Go.Proofs.YtenljbljaffehaaDoor
