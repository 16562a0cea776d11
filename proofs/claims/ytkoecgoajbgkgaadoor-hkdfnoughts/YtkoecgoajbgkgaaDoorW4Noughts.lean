/- What the law HkdfNoughts answers at every input: the walk. -/
import Derived.Test.YtkoecgoajbgkgaaDoorH04d
import Derived.Test.YtkoecgoajbgkgaaDoorBase
namespace Go.Proofs.YtkoecgoajbgkgaaDoor
open Go.ChangeShapes Go.WideShapes Go.ChangeAt Go.RowKit
set_option linter.unusedSimpArgs false
set_option linter.unusedVariables false

set_option maxRecDepth 100000 in
set_option maxHeartbeats 2000000 in
theorem noughts_walk (vk vb : Value) (k b : List UInt8) (n : Int) (w : World) (hrk : Rd w vk k) (hrb : Rd w vb b) (ht : Tabs w) :
    Calls Tryd.prog 5 #[vk, .int .i64 n, vb] w fun e w' => e = .returned (.bool true) ∧ Below w.heap.size w w' := by
  obtain ⟨ak, ck, rfl, -, hmk, -, -⟩ := id hrk
  obtain ⟨ab, cb, rfl, -, hmb, -, -⟩ := id hrb
  unfold maxLen at hmk hmb
  by_cases hk : k.length ≤ 136
  · have d1 : decide ((136 : Int) < (k.length : Int)) = false := decide_eq_false (by omega)
    have g1 : (k.length : Int) ≤ 136 := by omega
    by_cases hb : b.length ≤ 1000
    · have d2 : decide ((1000 : Int) < (b.length : Int)) = false := decide_eq_false (by omega)
      have g2 : (b.length : Int) ≤ 1000 := by omega
      obtain ⟨X, hX, hXa⟩ := and_small n 255 (by decide)
      have hXa' : bits .and .i64 n 255 = (X : Int) := hXa
      obtain ⟨r, hr⟩ : ∃ r : Nat, r = 136 - k.length := ⟨_, rfl⟩
      have hw1 : IntKind.i64.wrap (136 - (k.length : Int)) = (r : Int) := by rw [IntWalk.i64_in _ (by omega)]; omega
      have HL : Hid (b.length ≤ 1000) := hb
      have HK : Hid (k.length ≤ 136) := hk
      obtain ⟨Z, hZ⟩ : ∃ Z : Nat, Z = if r < X then r else X := ⟨_, rfl⟩
      have HZ : Hid (k.length + Z ≤ 136) := by
        show _ ≤ _
        rw [hZ]
        split <;> omega
      have hcase : (decide ((r : Int) < (X : Int)) = true ∧ (r : Int) < (X : Int) ∧ Z = r) ∨ (decide ((r : Int) < (X : Int)) = false ∧ (X : Int) ≤ (r : Int) ∧ Z = X) := by
        by_cases h : r < X
        · exact .inl ⟨decide_eq_true (by omega), by omega, by rw [hZ, if_pos h]⟩
        · exact .inr ⟨decide_eq_false (by omega), by omega, by rw [hZ, if_neg h]⟩
      clear hXa hk hb hr hZ hX
      go_enter Tryd.func5, Tryd.ntmps5
      go_wp2_with fail
      refine (awake_any _ ht).mono ?_
      rintro e w1 ⟨rfl, hB1⟩
      have hrk1 := hrk.kept hB1
      have hrb1 := hrb.kept hB1
      have ht1 := ht.kept hB1
      have hN1 : New 5 w1 (.slice none 0 0) [] w1 := New.start w1
      clear hrk hrb ht
      rcases hcase with ⟨d3, g3, rfl⟩ | ⟨d3, g3, rfl⟩
      all_goals
        go_wp2_with (at_builtin; go_must (refine wpList_append_new (w := w1) rfl _ _ 22 rfl 5 Tryd.underlying22 info5 _ _ rfl hN1 _ _ rfl hrk1 (by have := HK.out; simp; omega) ?_))
        intro v2 w2 hN2 _
        clear hN1
        go_wp2_with (refine wpList_append_zeros (w := w1) rfl _ _ 22 3 rfl 5 Tryd.underlying22 Tryd.underlying3 info5 _ k rfl hN2 _ rfl (by have := HZ.out; omega) ?_)
        intro v3 w3 hN3
        have hR3 := hN3.rd
        have hrk3 := hrk1.kept hN3.2
        have hrb3 := hrb1.kept hN3.2
        have ht3 := ht1.kept hN3.2
        have b3 := stepB hB1 hN3.2
        have HE : Hid _ := mcF_noughts k b _ HZ.out
        clear hN2 hN3 hrk1 hrb1 ht1 hB1
        go_wp2_with fail
        refine wpG_begin (by kernel_rfl) ?_
        refine wpG_take (i := 0) (oi := { dst := some 37, op := Op.move (Operand.tmp 0), type := 22, pos := "law.go:62", after := #[], guard := none }) (v := ?_) rfl (by kernel_rfl) (by kernel_rfl) (by kernel_rfl) (by rfl) ?_ ?_
        rotate_left
        · intro W hW; first | (go_simp; done) | (go_simp; with_reducible rfl)
        try simp only [Act.put, List.setIfInBounds_toArray, List.set_cons_zero, List.set_cons_succ]
        refine wpG_take (i := 1) (oi := { dst := some 38, op := Op.move (Operand.tmp 2), type := 22, pos := "law.go:62", after := #[], guard := none }) (v := ?_) rfl (by kernel_rfl) (by kernel_rfl) (by kernel_rfl) (by rfl) ?_ ?_
        rotate_left
        · intro W hW; first | (go_simp; done) | (go_simp; with_reducible rfl)
        try simp only [Act.put, List.setIfInBounds_toArray, List.set_cons_zero, List.set_cons_succ]
        refine wpG_take (i := 4) (oi := { dst := some 41, op := Op.move (Operand.tmp 9), type := 22, pos := "law.go:62", after := #[], guard := none }) (v := ?_) rfl (by kernel_rfl) (by kernel_rfl) (by kernel_rfl) (by rfl) ?_ ?_
        rotate_left
        · intro W hW; first | (go_simp; done) | (go_simp; with_reducible rfl)
        try simp only [Act.put, List.setIfInBounds_toArray, List.set_cons_zero, List.set_cons_succ]
        refine wpG_take (i := 5) (oi := { dst := some 42, op := Op.move (Operand.tmp 2), type := 22, pos := "law.go:62", after := #[], guard := none }) (v := ?_) rfl (by kernel_rfl) (by kernel_rfl) (by kernel_rfl) (by rfl) ?_ ?_
        rotate_left
        · intro W hW; first | (go_simp; done) | (go_simp; with_reducible rfl)
        try simp only [Act.put, List.setIfInBounds_toArray, List.set_cons_zero, List.set_cons_succ]
        refine wpG_do (i := 2) (o := { dst := some 39, op := Op.call { callee := Callee.value (Operand.func 9), args := #[Operand.tmp 37, Operand.tmp 38], argTypes := #[22, 22] }, type := 22, pos := "law.go:62", after := #[{ on := 0, ground := Ground.data }, { on := 1, ground := Ground.data }], guard := none }) (by kernel_rfl) rfl (by rfl) fun K hK => ?_
        go_simp
        refine (mac_any _ _ k b (by have := HL.out; omega) _ hrk3.drew hrb3.drew (ht3.kept (Below.refl _ _).drew)).mono ?_
        rintro e w4 ⟨v4, rfl, hN4⟩
        refine hK.out _ _ hN4.2 ?_
        clear hK K
        have hR4' := hR3.drew.kept hN4.2
        have hrb4 := hrb3.drew.kept hN4.2
        have ht4 := (ht3.kept (Below.refl _ _).drew).kept hN4.2
        have hb4 := stepB b3.drew hN4.2
        have hR4 := hN4.rd
        try simp only [Act.put, List.setIfInBounds_toArray, List.set_cons_zero, List.set_cons_succ]
        refine wpG_take (i := 3) (oi := { dst := some 40, op := Op.convert 22 9 (Operand.tmp 39), type := 9, pos := "law.go:62", after := #[{ on := 2, ground := Ground.data }], guard := none }) (v := ?_) rfl (by kernel_rfl) (by kernel_rfl) (by kernel_rfl) (by rfl) ?_ ?_
        rotate_left
        · intro W hW; have hcv := convS (hR4.kept hW); first | (go_simp; done) | (go_simp; with_reducible rfl)
        try simp only [Act.put, List.setIfInBounds_toArray, List.set_cons_zero, List.set_cons_succ]
        refine wpG_do (i := 6) (o := { dst := some 43, op := Op.call { callee := Callee.value (Operand.func 9), args := #[Operand.tmp 41, Operand.tmp 42], argTypes := #[22, 22] }, type := 22, pos := "law.go:62", after := #[{ on := 4, ground := Ground.data }, { on := 5, ground := Ground.data }, { on := 2, ground := Ground.chain }], guard := none }) (by kernel_rfl) rfl (by rfl) fun K hK => ?_
        go_simp
        refine (mac_any _ _ _ b (by have := HL.out; omega) _ hR4' hrb4 ht4).mono ?_
        rintro e w5 ⟨v5, rfl, hN5⟩
        rw [HE.out] at hN5
        refine hK.out _ _ hN5.2 ?_
        clear hK K
        have hb5 := stepB hb4 hN5.2
        have hR5 := hN5.rd
        try simp only [Act.put, List.setIfInBounds_toArray, List.set_cons_zero, List.set_cons_succ]
        refine wpG_take (i := 7) (oi := { dst := some 44, op := Op.convert 22 9 (Operand.tmp 43), type := 9, pos := "law.go:62", after := #[{ on := 6, ground := Ground.data }], guard := none }) (v := ?_) rfl (by kernel_rfl) (by kernel_rfl) (by kernel_rfl) (by rfl) ?_ ?_
        rotate_left
        · intro W hW; have hcv := convS (hR5.kept hW); first | (go_simp; done) | (go_simp; with_reducible rfl)
        try simp only [Act.put, List.setIfInBounds_toArray, List.set_cons_zero, List.set_cons_succ]
        refine wpG_take (i := 8) (oi := { dst := some 45, op := Op.binOp BinOp.eql 9 (Operand.tmp 40) (Operand.tmp 44) 9, type := 4, pos := "law.go:62", after := #[{ on := 3, ground := Ground.data }, { on := 7, ground := Ground.data }], guard := none }) (v := ?_) rfl (by kernel_rfl) (by kernel_rfl) (by kernel_rfl) (by rfl) ?_ ?_
        rotate_left
        · intro W hW; first | (go_simp; done) | (go_simp; with_reducible rfl)
        try simp only [Act.put, List.setIfInBounds_toArray, List.set_cons_zero, List.set_cons_succ]
        refine wpG_take (i := 9) (oi := { dst := some 6, op := Op.assign (Operand.tmp 45), type := 4, pos := "law.go:62", after := #[{ on := 8, ground := Ground.data }, { on := 6, ground := Ground.chain }, { on := 0, ground := Ground.phase }, { on := 1, ground := Ground.phase }, { on := 2, ground := Ground.phase }, { on := 3, ground := Ground.phase }, { on := 4, ground := Ground.phase }, { on := 5, ground := Ground.phase }, { on := 6, ground := Ground.phase }, { on := 7, ground := Ground.phase }, { on := 8, ground := Ground.phase }], guard := none }) (v := ?_) rfl (by kernel_rfl) (by kernel_rfl) (by kernel_rfl) (by rfl) ?_ ?_
        rotate_left
        · intro W hW; first | (go_simp; done) | (go_simp; with_reducible rfl)
        try simp only [Act.put, List.setIfInBounds_toArray, List.set_cons_zero, List.set_cons_succ]
        refine wpG_done (by kernel_rfl) ?_
        go_wp2
        go_ret
        exact ⟨rfl, hb5⟩
    · have d2 : decide ((1000 : Int) < (b.length : Int)) = true := decide_eq_true (by omega)
      have g2 : (1000 : Int) < (b.length : Int) := by omega
      go_enter Tryd.func5, Tryd.ntmps5
      go_wp2_with fail
      refine (awake_any _ ht).mono ?_
      rintro e w1 ⟨rfl, hB1⟩
      go_wp2
      go_ret
      exact ⟨rfl, hB1⟩
  · have d1 : decide ((136 : Int) < (k.length : Int)) = true := decide_eq_true (by omega)
    have g1 : (136 : Int) < (k.length : Int) := by omega
    go_enter Tryd.func5, Tryd.ntmps5
    go_wp2_with fail
    refine (awake_any _ ht).mono ?_
    rintro e w1 ⟨rfl, hB1⟩
    go_wp2
    go_ret
    exact ⟨rfl, hB1⟩
end Go.Proofs.YtkoecgoajbgkgaaDoor
