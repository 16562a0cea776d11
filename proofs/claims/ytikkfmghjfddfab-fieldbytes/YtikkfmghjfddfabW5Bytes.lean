/- What the law FieldBytes answers at every input: the walk. -/
import Derived.Test.YtikkfmghjfddfabF05j
namespace Go.Proofs.Ytikkfmghjfddfab
open Go.ChangeShapes Go.WideShapes Go.ChangeAt Go.RowKit
set_option linter.unusedSimpArgs false
set_option linter.unusedVariables false

theorem top_bit (y : UInt8) : (y ^^^ 128).toNat % 128 = y.toNat % 128 := by
  have h : ∀ n : Fin 256, ((UInt8.ofNat n.val) ^^^ 128).toNat % 128 = (UInt8.ofNat n.val).toNat % 128 := by decide +kernel
  have := h ⟨y.toNat, y.toNat_lt⟩
  simpa using this
theorem dec_turn (b more : List UInt8) (h : b.length = 32) : decN ((b ++ more).set 31 (b.getD 31 0 ^^^ 128)) = decN b := by
  have e0 : b = b.take 31 ++ [b.getD 31 0] := by
    have h1 := List.take_succ_eq_append_getElem (l := b) (i := 31) (by omega)
    rw [List.take_of_length_le (by omega)] at h1
    have h2 : b.getD 31 0 = b[31] := by simp [h]
    rw [h2]
    exact h1
  have hl : (b.take 31).length = 31 := by rw [List.length_take]; omega
  have key : ∀ y : UInt8, leN (b.take 31 ++ [y]) % 57896044618658097711785492504343953926634992332820282019728792003956564819968 = (leN (b.take 31) + 256 ^ 31 * (y.toNat % 128)) % 57896044618658097711785492504343953926634992332820282019728792003956564819968 := by
    intro y
    rw [leN_snoc, hl]
    have := y.toNat_lt
    generalize leN (b.take 31) = q
    generalize y.toNat = t
    omega
  have e1 : ((b ++ more).set 31 (b.getD 31 0 ^^^ 128)).take 32 = b.take 31 ++ [b.getD 31 0 ^^^ 128] := by
    rw [List.set_append_left _ _ (by omega)]
    rw [List.take_append_of_le_length (by rw [List.length_set]; omega), List.take_of_length_le (by rw [List.length_set]; omega)]
    have e2 : b.set 31 (b.getD 31 0 ^^^ 128) = (b.take 31 ++ [b.getD 31 0]).set 31 (b.getD 31 0 ^^^ 128) := by rw [← e0]
    rw [e2, List.set_append_right _ _ (by omega), hl]
    rfl
  unfold decN
  rw [e1, key, top_bit, ← key, ← e0, List.take_of_length_le (by omega)]

theorem info32 {l : List UInt8} (h : l.length = 32) : (byI l).length ≤ maxLen := by
  rw [byI_length, h]
  decide

set_option maxRecDepth 100000 in
set_option maxHeartbeats 4000000 in
theorem bytes_walk (Ba : Array Value) (b : List UInt8) (hb32 : b.length = 32) (hBa : Ba = ((byI b).map (Value.int .u8)).toArray) (vm : Value) (m : List UInt8) (w : World) (hm : Rd w vm m) :
    Calls Try.prog 6 #[.agg Ba, vm] w fun e w' => e = .returned (.bool true) ∧ Below w.heap.size w w' := by
  obtain ⟨am, cm, rfl, hcm, hmm, -, -⟩ := id hm
  unfold maxLen at hmm
  have hne : byI b ≠ [] := byI_ne (by rw [← List.length_pos_iff]; omega)
  have H32 : Hid (b.length = 32) := hb32
  go_enter Try.func6, Try.ntmps6
  go_wp2_with (refine wpList_box_row (k := .u8) rfl 40 _ rfl (byI b) (by rw [← hBa]; rfl) hne (info32 hb32) ?_)
  intro w1 rb bn sn
  rw [byI_length, hb32] at rb
  have hbw := bn
  replace hm := hm.kept bn
  clear bn sn hBa hne hb32
  go_wp2_with fail
  refine (awake_any _).mono ?_
  rintro e wa ⟨rfl, bn⟩
  replace rb := rb.kept bn
  replace hm := hm.kept bn
  replace hbw := stepB hbw bn
  clear bn
  have hrd := rb.rdB
  rw [H32.out] at hrd
  go_wp2_with fail
  refine (fdecode_any _ b _ hrd).mono ?_
  rintro e w2 ⟨l2, rfl, h2, v2, bn⟩
  replace rb := rb.kept bn
  replace hm := hm.kept bn
  replace hrd := hrd.kept bn
  replace hbw := stepB hbw bn
  clear bn
  go_wp2_with fail
  refine (fencode_any _ l2 h2 rfl _).mono ?_
  rintro e w3 ⟨vx, rfl, hN⟩
  rw [v2] at hN
  have hx := hN.rd
  replace rb := rb.kept hN.2
  replace hm := hm.kept hN.2
  replace hrd := hrd.kept hN.2
  replace hbw := stepB hbw hN.2
  clear hN v2 h2
  by_cases hlong : 100 < m.length
  case' pos =>
    have d1 : decide ((100 : Int) < (m.length : Int)) = true := decide_eq_true (by omega)
    have g1 : (100 : Int) < (m.length : Int) := by omega
  case' neg =>
    have d1 : decide ((100 : Int) < (m.length : Int)) = false := decide_eq_false (by omega)
    have g1 : (m.length : Int) ≤ 100 := by omega
  all_goals
    go_wp2_with fail
    refine wpG_begin (by kernel_rfl) ?_
    refine wpG_take (i := 0) (oi := { dst := some 14, op := Op.move (Operand.tmp 6), type := 29, pos := "law.go:136", after := #[], guard := none }) (v := ?_) rfl (by kernel_rfl) (by kernel_rfl) (by kernel_rfl) (by rfl) ?_ ?_
    rotate_left
    · intro W hW; first | (go_simp; done) | (go_simp; with_reducible rfl)
    try simp only [Act.put, List.setIfInBounds_toArray, List.set_cons_zero, List.set_cons_succ]
    refine wpG_take (i := 1) (oi := { dst := some 15, op := Op.convert 29 9 (Operand.tmp 14), type := 9, pos := "law.go:136", after := #[{ on := 0, ground := Ground.data }], guard := none }) (v := ?_) rfl (by kernel_rfl) (by kernel_rfl) (by kernel_rfl) (by rfl) ?_ ?_
    rotate_left
    · intro W hW; have hcv := conv_any (hx.drew.kept hW); first | (go_simp; done) | (go_simp; with_reducible rfl)
    try simp only [Act.put, List.setIfInBounds_toArray, List.set_cons_zero, List.set_cons_succ]
    refine wpG_take (i := 2) (oi := { dst := some 16, op := Op.slice 40 (Operand.tmp 2) none none none, type := 29, pos := "law.go:136", after := #[], guard := none }) (v := ?_) rfl (by kernel_rfl) (by kernel_rfl) (by kernel_rfl) (by rfl) ?_ ?_
    rotate_left
    · intro W hW; first | (go_simp; done) | (go_simp; with_reducible rfl)
    try simp only [Act.put, List.setIfInBounds_toArray, List.set_cons_zero, List.set_cons_succ]
    refine wpG_do (i := 3) (o := { dst := some 17, op := Op.call { callee := Callee.value (Operand.func 21), args := #[Operand.tmp 16], argTypes := #[29] }, type := 33, pos := "law.go:136", after := #[{ on := 2, ground := Ground.data }], guard := none }) (by kernel_rfl) rfl (by rfl) fun K hK => ?_
    go_simp
    refine (decodeR_any _ b _ hrd.drew).mono ?_
    rintro e w4 ⟨v4, rfl, hR4, b4⟩
    refine hK.out _ _ b4 ?_
    clear hK K
    try simp only [Act.put, List.setIfInBounds_toArray, List.set_cons_zero, List.set_cons_succ]
    refine wpG_do (i := 4) (o := { dst := some 18, op := Op.call { callee := Callee.value (Operand.func 20), args := #[Operand.tmp 17], argTypes := #[33] }, type := 29, pos := "law.go:136", after := #[{ on := 3, ground := Ground.data }, { on := 3, ground := Ground.chain }], guard := none }) (by kernel_rfl) rfl (by rfl) fun K hK => ?_
    go_simp
    refine (encodeR_any _ _ _ hR4).mono ?_
    rintro e w5 ⟨v5, rfl, hN5⟩
    refine hK.out _ _ hN5.2 ?_
    clear hK K
    have hx5 := hN5.rd
    try simp only [Act.put, List.setIfInBounds_toArray, List.set_cons_zero, List.set_cons_succ]
    refine wpG_take (i := 5) (oi := { dst := some 19, op := Op.convert 29 9 (Operand.tmp 18), type := 9, pos := "law.go:136", after := #[{ on := 4, ground := Ground.data }], guard := none }) (v := ?_) rfl (by kernel_rfl) (by kernel_rfl) (by kernel_rfl) (by rfl) ?_ ?_
    rotate_left
    · intro W hW; have hcv := conv_any (hx5.kept hW); first | (go_simp; done) | (go_simp; with_reducible rfl)
    try simp only [Act.put, List.setIfInBounds_toArray, List.set_cons_zero, List.set_cons_succ]
    refine wpG_take (i := 6) (oi := { dst := some 20, op := Op.binOp BinOp.neq 9 (Operand.tmp 15) (Operand.tmp 19) 9, type := 4, pos := "law.go:136", after := #[{ on := 1, ground := Ground.data }, { on := 5, ground := Ground.data }], guard := none }) (v := ?_) rfl (by kernel_rfl) (by kernel_rfl) (by kernel_rfl) (by rfl) ?_ ?_
    rotate_left
    · intro W hW; first | (go_simp; done) | (go_simp; with_reducible rfl)
    try simp only [Act.put, List.setIfInBounds_toArray, List.set_cons_zero, List.set_cons_succ]
    refine wpG_take (i := 7) (oi := { dst := some 21, op := Op.move (Operand.tmp 20), type := 4, pos := "law.go:136", after := #[{ on := 6, ground := Ground.data }, { on := 4, ground := Ground.chain }], guard := none }) (v := ?_) rfl (by kernel_rfl) (by kernel_rfl) (by kernel_rfl) (by rfl) ?_ ?_
    rotate_left
    · intro W hW; first | (go_simp; done) | (go_simp; with_reducible rfl)
    try simp only [Act.put, List.setIfInBounds_toArray, List.set_cons_zero, List.set_cons_succ]
    refine wpG_take (i := 8) (oi := { dst := some 22, op := Op.move (Operand.tmp 1), type := 29, pos := "law.go:136", after := #[{ on := 7, ground := Ground.guard }], guard := some (7, false) }) (v := ?_) rfl (by kernel_rfl) (by kernel_rfl) (by kernel_rfl) (by rfl) ?_ ?_
    rotate_left
    · intro W hW; first | (go_simp; done) | (go_simp; with_reducible rfl)
    try simp only [Act.put, List.setIfInBounds_toArray, List.set_cons_zero, List.set_cons_succ]
    refine wpG_take (i := 9) (oi := { dst := some 23, op := Op.call { callee := Callee.builtin Builtin.len, args := #[Operand.tmp 22], argTypes := #[29] }, type := 3, pos := "law.go:136", after := #[{ on := 8, ground := Ground.data }, { on := 7, ground := Ground.guard }], guard := some (7, false) }) (v := ?_) rfl (by kernel_rfl) (by kernel_rfl) (by kernel_rfl) (by rfl) ?_ ?_
    rotate_left
    · intro W hW; first | (go_simp; done) | (go_simp; with_reducible rfl)
    try simp only [Act.put, List.setIfInBounds_toArray, List.set_cons_zero, List.set_cons_succ]
    refine wpG_take (i := 10) (oi := { dst := some 24, op := Op.binOp BinOp.gtr 3 (Operand.tmp 23) (Operand.const (Value.int IntKind.i64 100)) 3, type := 4, pos := "law.go:136", after := #[{ on := 9, ground := Ground.data }, { on := 7, ground := Ground.guard }], guard := some (7, false) }) (v := ?_) rfl (by kernel_rfl) (by kernel_rfl) (by kernel_rfl) (by rfl) ?_ ?_
    rotate_left
    · intro W hW; first | (go_simp; done) | (go_simp; with_reducible rfl)
    try simp only [Act.put, List.setIfInBounds_toArray, List.set_cons_zero, List.set_cons_succ]
    refine wpG_take (i := 11) (oi := { dst := some 25, op := Op.pick (Operand.tmp 21) (Operand.const (Value.bool true)) (Operand.tmp 24), type := 4, pos := "law.go:136", after := #[{ on := 7, ground := Ground.data }, { on := 10, ground := Ground.data }], guard := none }) (v := ?_) rfl (by kernel_rfl) (by kernel_rfl) (by kernel_rfl) (by rfl) ?_ ?_
    rotate_left
    · intro W hW; first | (go_simp; done) | (go_simp; with_reducible rfl)
    try simp only [Act.put, List.setIfInBounds_toArray, List.set_cons_zero, List.set_cons_succ]
    refine wpG_done (by kernel_rfl) ?_
    have bn := stepB (stepB ((Below.refl w3.heap.size w3).drew) b4) hN5.2
    replace rb := rb.kept bn
    replace hm := hm.kept bn
    replace hrd := hrd.kept bn
    replace hx := hx.kept bn
    replace hbw := stepB hbw bn
    clear bn hx5 hN5 b4 hR4
  · have hN0 : New 5 w5 (.slice none 0 0) [] w5 := New.start w5
    have HM : Hid (m.length ≤ 100) := by show _ ≤ _; omega
    clear d1 g1 hlong
    go_wp2_with (at_builtin; go_must (refine wpList_append_new (w := w5) rfl _ _ 29 rfl 5 Try.underlying29 info5 _ _ rfl hN0 _ _ rfl hrd (by rw [H32.out]; decide) ?_))
    intro v6 w6 hN6 _
    replace hm := hm.kept hN6.2
    clear hN0 hrd rb
    go_wp2_with (at_builtin; go_must (refine wpList_append_new (w := w5) rfl _ _ 29 rfl 5 Try.underlying29 info5 _ _ rfl hN6 _ _ rfl hm (by have := HM.out; rw [H32.out]; omega) ?_))
    intro v7 w7 hN7 hg7
    have HG : Hid ((b ++ m).getD 31 0 = b.getD 31 0) := by
      show _ = _
      have := H32.out
      rw [List.getD_eq_getElem?_getD, List.getElem?_append_left (by omega), ← List.getD_eq_getElem?_getD]
    have HL : Hid (31 < (b ++ m).length) := by
      show _ < _
      rw [List.length_append, H32.out]
      omega
    have HD : Hid _ := dec_turn b m H32.out
    obtain ⟨y, hy⟩ : ∃ y : UInt8, y = b.getD 31 0 := ⟨_, rfl⟩
    rw [← hy] at HG HD
    obtain ⟨q, hq⟩ : ∃ q : List UInt8, q = b ++ m := ⟨_, rfl⟩
    rw [← hq] at HG HD HL hN7
    clear hy hq hm hN6 hg7
    obtain ⟨a7, c7, rfl, hc7, hm7, -, -⟩ := id hN7.rd
    unfold maxLen at hm7
    obtain ⟨g, rfl, hge, -, hcell, hfree, hset⟩ := own_at rfl hN7.1 HL.out
    rw [HG.out] at hcell
    have hown := hset (y ^^^ 128) _ rfl
    have hbel := hN7.2.setCell (p := ⟨g, 31, none⟩) hge (.int .u8 (((y ^^^ 128).toNat : Nat) : Int))
    have hNn : New 5 w5 (.slice (some ⟨g, 0, none⟩) q.length c7) (q.set 31 (y ^^^ 128)) (w7.setCell ⟨g, 31, none⟩ (.int .u8 (((y ^^^ 128).toNat : Nat) : Int))) := ⟨hown, hbel⟩
    have hRl := hNn.rd
    have xx : bits .xor .u8 ((y.toNat : Nat) : Int) 128 = (((y ^^^ 128).toNat : Nat) : Int) := byte_xor y 128
    have hx8 := hx.kept hbel
    have hq31 : (31 : Int) < (q.length : Int) := by have := HL.out; omega
    have hq31' : 31 < q.length := HL.out
    replace hbw := stepB hbw hbel
    have HRL : Hid (Rd _ _ _) := hRl
    have HX8 : Hid (Rd _ _ _) := hx8
    clear hset hown hbel hNn hN7 hx hRl hx8 hge
    go_wp2_with fail
    have hRl := HRL.out
    have hx8 := HX8.out
    refine wpG_begin (by kernel_rfl) ?_
    refine wpG_take (i := 0) (oi := { dst := some 41, op := Op.move (Operand.tmp 7), type := 29, pos := "law.go:143", after := #[], guard := none }) (v := ?_) rfl (by kernel_rfl) (by kernel_rfl) (by kernel_rfl) (by rfl) ?_ ?_
    rotate_left
    · intro W hW; first | (go_simp; done) | (go_simp; with_reducible rfl)
    try simp only [Act.put, List.setIfInBounds_toArray, List.set_cons_zero, List.set_cons_succ]
    refine wpG_take (i := 4) (oi := { dst := some 45, op := Op.move (Operand.tmp 6), type := 29, pos := "law.go:143", after := #[], guard := none }) (v := ?_) rfl (by kernel_rfl) (by kernel_rfl) (by kernel_rfl) (by rfl) ?_ ?_
    rotate_left
    · intro W hW; first | (go_simp; done) | (go_simp; with_reducible rfl)
    try simp only [Act.put, List.setIfInBounds_toArray, List.set_cons_zero, List.set_cons_succ]
    refine wpG_take (i := 5) (oi := { dst := some 46, op := Op.convert 29 9 (Operand.tmp 45), type := 9, pos := "law.go:143", after := #[{ on := 4, ground := Ground.data }], guard := none }) (v := ?_) rfl (by kernel_rfl) (by kernel_rfl) (by kernel_rfl) (by rfl) ?_ ?_
    rotate_left
    · intro W hW; have hcv := conv_any (hx8.drew.kept hW); first | (go_simp; done) | (go_simp; with_reducible rfl)
    try simp only [Act.put, List.setIfInBounds_toArray, List.set_cons_zero, List.set_cons_succ]
    refine wpG_do (i := 1) (o := { dst := some 42, op := Op.call { callee := Callee.value (Operand.func 12), args := #[Operand.tmp 41], argTypes := #[29] }, type := 26, pos := "law.go:143", after := #[{ on := 0, ground := Ground.data }], guard := none }) (by kernel_rfl) rfl (by rfl) fun K hK => ?_
    go_simp
    refine (fdecode_any _ _ _ hRl.drew).mono ?_
    rintro e w8 ⟨l8, rfl, h8, v8, b8⟩
    refine hK.out _ _ b8 ?_
    clear hK K
    have hx9 := hx8.drew.kept b8
    try simp only [Act.put, List.setIfInBounds_toArray, List.set_cons_zero, List.set_cons_succ]
    refine wpG_do (i := 2) (o := { dst := some 43, op := Op.call { callee := Callee.value (Operand.func 13), args := #[Operand.tmp 42], argTypes := #[26] }, type := 29, pos := "law.go:143", after := #[{ on := 1, ground := Ground.data }, { on := 1, ground := Ground.chain }], guard := none }) (by kernel_rfl) rfl (by rfl) fun K hK => ?_
    go_simp
    refine (fencode_any _ l8 h8 rfl _).mono ?_
    rintro e w9 ⟨v9, rfl, hN9⟩
    refine hK.out _ _ hN9.2 ?_
    clear hK K
    have hy9 := hN9.rd
    rw [v8, HD.out] at hy9
    have hx10 := hx9.kept hN9.2
    try simp only [Act.put, List.setIfInBounds_toArray, List.set_cons_zero, List.set_cons_succ]
    refine wpG_take (i := 3) (oi := { dst := some 44, op := Op.convert 29 9 (Operand.tmp 43), type := 9, pos := "law.go:143", after := #[{ on := 2, ground := Ground.data }], guard := none }) (v := ?_) rfl (by kernel_rfl) (by kernel_rfl) (by kernel_rfl) (by rfl) ?_ ?_
    rotate_left
    · intro W hW; have hcv := conv_any (hy9.kept hW); first | (go_simp; done) | (go_simp; with_reducible rfl)
    try simp only [Act.put, List.setIfInBounds_toArray, List.set_cons_zero, List.set_cons_succ]
    refine wpG_take (i := 6) (oi := { dst := some 47, op := Op.binOp BinOp.eql 9 (Operand.tmp 44) (Operand.tmp 46) 9, type := 4, pos := "law.go:143", after := #[{ on := 3, ground := Ground.data }, { on := 5, ground := Ground.data }], guard := none }) (v := ?_) rfl (by kernel_rfl) (by kernel_rfl) (by kernel_rfl) (by rfl) ?_ ?_
    rotate_left
    · intro W hW; first | (go_simp; done) | (go_simp; with_reducible rfl)
    try simp only [Act.put, List.setIfInBounds_toArray, List.set_cons_zero, List.set_cons_succ]
    refine wpG_take (i := 7) (oi := { dst := some 4, op := Op.assign (Operand.tmp 47), type := 4, pos := "law.go:143", after := #[{ on := 6, ground := Ground.data }, { on := 2, ground := Ground.chain }, { on := 0, ground := Ground.phase }, { on := 1, ground := Ground.phase }, { on := 2, ground := Ground.phase }, { on := 3, ground := Ground.phase }, { on := 4, ground := Ground.phase }, { on := 5, ground := Ground.phase }, { on := 6, ground := Ground.phase }], guard := none }) (v := ?_) rfl (by kernel_rfl) (by kernel_rfl) (by kernel_rfl) (by rfl) ?_ ?_
    rotate_left
    · intro W hW; first | (go_simp; done) | (go_simp; with_reducible rfl)
    try simp only [Act.put, List.setIfInBounds_toArray, List.set_cons_zero, List.set_cons_succ]
    refine wpG_done (by kernel_rfl) ?_
    go_wp2
    go_ret
    exact ⟨rfl, stepB (stepB hbw.drew b8) hN9.2⟩
  · go_wp2
    go_ret
    exact ⟨rfl, hbw⟩
end Go.Proofs.Ytikkfmghjfddfab
