/- What the law CurveClamps answers at every input: the walk. -/
import Derived.Test.YthokfcmnijpkhaaV06h
import Derived.Test.YthokfcmnijpkhaaRef06c
namespace Go.Proofs.Ythokfcmnijpkhaa
open Go.ChangeShapes Go.WideShapes Go.ChangeAt Go.RowKit
set_option linter.unusedSimpArgs false
set_option linter.unusedVariables false

theorem clL_twice (k : List UInt8) (h : k.length = 32) : clL (clL k) = clL k := by
  have h0 : ((clL k).getD 0 0).toNat = (k.getD 0 0).toNat / 8 * 8 := clL_get0 k h
  have h1 : ((clL k).getD 31 0).toNat = (k.getD 31 0).toNat % 64 + 64 := clL_get31 k h
  have e0 : ((clL k).getD 0 0).toNat / 8 * 8 = (k.getD 0 0).toNat / 8 * 8 := by rw [h0]; omega
  have e1 : ((clL k).getD 31 0).toNat % 64 + 64 = (k.getD 31 0).toNat % 64 + 64 := by rw [h1]; omega
  show ((clL k).set 0 (UInt8.ofNat (((clL k).getD 0 0).toNat / 8 * 8))).set 31 (UInt8.ofNat (((clL k).getD 31 0).toNat % 64 + 64)) = clL k
  rw [e0, e1]
  unfold clL
  rw [List.set_comm _ _ (by decide : (31 : Nat) ≠ 0), List.set_set, List.set_set]

set_option maxRecDepth 100000 in
set_option maxHeartbeats 4000000 in
theorem clamps_walk (vk : Value) (k : List UInt8) (w : World) (hk : Rd w vk k) :
    Calls Try.prog 5 #[vk] w fun e w' => e = .returned (.bool true) ∧ Below w.heap.size w w' := by
  obtain ⟨ak, ck, rfl, -, hmk, -, -⟩ := id hk
  unfold maxLen at hmk
  go_enter Try.func5, Try.ntmps5
  go_wp2_with fail
  refine (awake_any _).mono ?_
  rintro e wa ⟨rfl, bn⟩
  replace hk := hk.kept bn
  have hbw := bn
  clear bn
  go_wp2_with fail
  by_cases hl : k.length = 32
  · have hne : ((k.length : Int) != 32) = false := by simp; omega
    have HL : Hid (k.length = 32) := hl
    refine (clamp_any _ k hl _ hk).mono ?_
    rintro e w1 ⟨vx, rfl, hNx⟩
    have k1 := hk.kept hNx.2
    clear hl hmk
    go_wp2_with fail
    refine (public_any _ k _ k1).mono ?_
    rintro e w2 ⟨hp, -⟩
    obtain ⟨vp, rfl, hN⟩ := hp HL.out
    replace k1 := k1.kept hN.2
    replace hNx := hNx.kept hN.2
    have kp := hN.rd
    clear hN hp hne
    go_wp2_with fail
    refine (public_any _ (clL k) _ hNx.rd).mono ?_
    rintro e w3 ⟨hp, -⟩
    obtain ⟨vq, rfl, hN⟩ := hp (by rw [clL_length, HL.out])
    replace k1 := k1.kept hN.2
    replace kp := kp.kept hN.2
    replace hNx := hNx.kept hN.2
    have kq := hN.rd
    rw [scN_congr (clL_twice k HL.out) rfl] at kq
    clear hN hp
    have hcv0 := conv_any k1
    have kx := hNx.rd
    have KX : Hid (Rd _ _ _) := kx.drew
    have KP : Hid (Rd _ _ _) := kp.drew
    have KQ : Hid (Rd _ _ _) := kq.drew
    have K1 : Hid (Rd _ _ _) := k1.drew
    have NX : Hid (New _ _ _ _ _) := hNx.drew
    obtain ⟨P, hP⟩ : ∃ P : List UInt8, P = enL (scN k key9) := ⟨_, rfl⟩
    rw [← hP] at KP KQ
    clear hP kx kp kq k1 hNx
    go_wp2_with fail
    clear hcv0
    refine wpG_begin (by kernel_rfl) ?_
    refine wpG_take (i := 0) (oi := { dst := some 43, op := Op.move (Operand.tmp 5), type := 24, pos := "law.go:60", after := #[], guard := none }) (v := ?_) rfl (by kernel_rfl) (by kernel_rfl) (by kernel_rfl) (by rfl) ?_ ?_
    rotate_left
    · intro W hW; first | (go_simp; done) | (go_simp; with_reducible rfl)
    try simp only [Act.put, List.setIfInBounds_toArray, List.set_cons_zero, List.set_cons_succ]
    refine wpG_take (i := 1) (oi := { dst := some 44, op := Op.binOp BinOp.eql 24 (Operand.tmp 43) (Operand.const (Value.int IntKind.i64 0)) 24, type := 4, pos := "law.go:60", after := #[{ on := 0, ground := Ground.data }], guard := none }) (v := ?_) rfl (by kernel_rfl) (by kernel_rfl) (by kernel_rfl) (by rfl) ?_ ?_
    rotate_left
    · intro W hW; first | (go_simp; done) | (go_simp; with_reducible rfl)
    try simp only [Act.put, List.setIfInBounds_toArray, List.set_cons_zero, List.set_cons_succ]
    refine wpG_take (i := 2) (oi := { dst := some 45, op := Op.move (Operand.tmp 44), type := 4, pos := "law.go:60", after := #[{ on := 1, ground := Ground.data }], guard := none }) (v := ?_) rfl (by kernel_rfl) (by kernel_rfl) (by kernel_rfl) (by rfl) ?_ ?_
    rotate_left
    · intro W hW; first | (go_simp; done) | (go_simp; with_reducible rfl)
    try simp only [Act.put, List.setIfInBounds_toArray, List.set_cons_zero, List.set_cons_succ]
    refine wpG_take (i := 3) (oi := { dst := some 46, op := Op.move (Operand.tmp 4), type := 22, pos := "law.go:60", after := #[{ on := 2, ground := Ground.guard }], guard := some (2, true) }) (v := ?_) rfl (by kernel_rfl) (by kernel_rfl) (by kernel_rfl) (by rfl) ?_ ?_
    rotate_left
    · intro W hW; first | (go_simp; done) | (go_simp; with_reducible rfl)
    try simp only [Act.put, List.setIfInBounds_toArray, List.set_cons_zero, List.set_cons_succ]
    refine wpG_take (i := 4) (oi := { dst := some 47, op := Op.convert 22 9 (Operand.tmp 46), type := 9, pos := "law.go:60", after := #[{ on := 3, ground := Ground.data }, { on := 2, ground := Ground.guard }], guard := some (2, true) }) (v := ?_) rfl (by kernel_rfl) (by kernel_rfl) (by kernel_rfl) (by rfl) ?_ ?_
    rotate_left
    · intro W hW; have hcv := conv_any (KX.out.kept hW); first | (go_simp; done) | (go_simp; with_reducible rfl)
    try simp only [Act.put, List.setIfInBounds_toArray, List.set_cons_zero, List.set_cons_succ]
    refine wpG_take (i := 5) (oi := { dst := some 48, op := Op.move (Operand.tmp 0), type := 22, pos := "law.go:60", after := #[{ on := 2, ground := Ground.guard }], guard := some (2, true) }) (v := ?_) rfl (by kernel_rfl) (by kernel_rfl) (by kernel_rfl) (by rfl) ?_ ?_
    rotate_left
    · intro W hW; first | (go_simp; done) | (go_simp; with_reducible rfl)
    try simp only [Act.put, List.setIfInBounds_toArray, List.set_cons_zero, List.set_cons_succ]
    refine wpG_do (i := 6) (o := { dst := some 49, op := Op.call { callee := Callee.value (Operand.func 17), args := #[Operand.tmp 48], argTypes := #[22] }, type := 22, pos := "law.go:60", after := #[{ on := 5, ground := Ground.data }, { on := 2, ground := Ground.chain }, { on := 2, ground := Ground.guard }], guard := some (2, true) }) (by kernel_rfl) rfl (by rfl) fun K hK => ?_
    go_simp
    refine (clampR_any _ k HL.out _ K1.out).mono ?_
    rintro e w4 ⟨v4, rfl, hN4⟩
    refine hK.out _ _ hN4.2 ?_
    clear hK K
    have k4 := hN4.rd
    have p4 := KP.out.kept hN4.2
    have q4 := KQ.out.kept hN4.2
    try simp only [Act.put, List.setIfInBounds_toArray, List.set_cons_zero, List.set_cons_succ]
    refine wpG_take (i := 7) (oi := { dst := some 50, op := Op.convert 22 9 (Operand.tmp 49), type := 9, pos := "law.go:60", after := #[{ on := 6, ground := Ground.data }, { on := 2, ground := Ground.guard }], guard := some (2, true) }) (v := ?_) rfl (by kernel_rfl) (by kernel_rfl) (by kernel_rfl) (by rfl) ?_ ?_
    rotate_left
    · intro W hW; have hcv := conv_any (k4.kept hW); first | (go_simp; done) | (go_simp; with_reducible rfl)
    try simp only [Act.put, List.setIfInBounds_toArray, List.set_cons_zero, List.set_cons_succ]
    refine wpG_take (i := 8) (oi := { dst := some 51, op := Op.binOp BinOp.eql 9 (Operand.tmp 47) (Operand.tmp 50) 9, type := 4, pos := "law.go:60", after := #[{ on := 4, ground := Ground.data }, { on := 7, ground := Ground.data }, { on := 2, ground := Ground.guard }], guard := some (2, true) }) (v := ?_) rfl (by kernel_rfl) (by kernel_rfl) (by kernel_rfl) (by rfl) ?_ ?_
    rotate_left
    · intro W hW; first | (go_simp; done) | (go_simp; with_reducible rfl)
    try simp only [Act.put, List.setIfInBounds_toArray, List.set_cons_zero, List.set_cons_succ]
    refine wpG_take (i := 9) (oi := { dst := some 52, op := Op.pick (Operand.tmp 45) (Operand.tmp 51) (Operand.const (Value.bool false)), type := 4, pos := "law.go:60", after := #[{ on := 2, ground := Ground.data }, { on := 8, ground := Ground.data }], guard := none }) (v := ?_) rfl (by kernel_rfl) (by kernel_rfl) (by kernel_rfl) (by rfl) ?_ ?_
    rotate_left
    · intro W hW; first | (go_simp; done) | (go_simp; with_reducible rfl)
    try simp only [Act.put, List.setIfInBounds_toArray, List.set_cons_zero, List.set_cons_succ]
    refine wpG_take (i := 10) (oi := { dst := some 53, op := Op.move (Operand.tmp 52), type := 4, pos := "law.go:60", after := #[{ on := 9, ground := Ground.data }, { on := 6, ground := Ground.chain }], guard := none }) (v := ?_) rfl (by kernel_rfl) (by kernel_rfl) (by kernel_rfl) (by rfl) ?_ ?_
    rotate_left
    · intro W hW; first | (go_simp; done) | (go_simp; with_reducible rfl)
    try simp only [Act.put, List.setIfInBounds_toArray, List.set_cons_zero, List.set_cons_succ]
    refine wpG_take (i := 11) (oi := { dst := some 54, op := Op.move (Operand.tmp 6), type := 22, pos := "law.go:60", after := #[{ on := 10, ground := Ground.guard }], guard := some (10, true) }) (v := ?_) rfl (by kernel_rfl) (by kernel_rfl) (by kernel_rfl) (by rfl) ?_ ?_
    rotate_left
    · intro W hW; first | (go_simp; done) | (go_simp; with_reducible rfl)
    try simp only [Act.put, List.setIfInBounds_toArray, List.set_cons_zero, List.set_cons_succ]
    refine wpG_take (i := 12) (oi := { dst := some 55, op := Op.convert 22 9 (Operand.tmp 54), type := 9, pos := "law.go:60", after := #[{ on := 11, ground := Ground.data }, { on := 10, ground := Ground.guard }], guard := some (10, true) }) (v := ?_) rfl (by kernel_rfl) (by kernel_rfl) (by kernel_rfl) (by rfl) ?_ ?_
    rotate_left
    · intro W hW; have hcv := conv_any (p4.kept hW); first | (go_simp; done) | (go_simp; with_reducible rfl)
    try simp only [Act.put, List.setIfInBounds_toArray, List.set_cons_zero, List.set_cons_succ]
    refine wpG_take (i := 13) (oi := { dst := some 56, op := Op.move (Operand.tmp 8), type := 22, pos := "law.go:60", after := #[{ on := 10, ground := Ground.guard }], guard := some (10, true) }) (v := ?_) rfl (by kernel_rfl) (by kernel_rfl) (by kernel_rfl) (by rfl) ?_ ?_
    rotate_left
    · intro W hW; first | (go_simp; done) | (go_simp; with_reducible rfl)
    try simp only [Act.put, List.setIfInBounds_toArray, List.set_cons_zero, List.set_cons_succ]
    refine wpG_take (i := 14) (oi := { dst := some 57, op := Op.convert 22 9 (Operand.tmp 56), type := 9, pos := "law.go:60", after := #[{ on := 13, ground := Ground.data }, { on := 10, ground := Ground.guard }], guard := some (10, true) }) (v := ?_) rfl (by kernel_rfl) (by kernel_rfl) (by kernel_rfl) (by rfl) ?_ ?_
    rotate_left
    · intro W hW; have hcv := conv_any (q4.kept hW); first | (go_simp; done) | (go_simp; with_reducible rfl)
    try simp only [Act.put, List.setIfInBounds_toArray, List.set_cons_zero, List.set_cons_succ]
    refine wpG_take (i := 15) (oi := { dst := some 58, op := Op.binOp BinOp.eql 9 (Operand.tmp 55) (Operand.tmp 57) 9, type := 4, pos := "law.go:60", after := #[{ on := 12, ground := Ground.data }, { on := 14, ground := Ground.data }, { on := 10, ground := Ground.guard }], guard := some (10, true) }) (v := ?_) rfl (by kernel_rfl) (by kernel_rfl) (by kernel_rfl) (by rfl) ?_ ?_
    rotate_left
    · intro W hW; first | (go_simp; done) | (go_simp; with_reducible rfl)
    try simp only [Act.put, List.setIfInBounds_toArray, List.set_cons_zero, List.set_cons_succ]
    refine wpG_take (i := 16) (oi := { dst := some 59, op := Op.pick (Operand.tmp 53) (Operand.tmp 58) (Operand.const (Value.bool false)), type := 4, pos := "law.go:60", after := #[{ on := 10, ground := Ground.data }, { on := 15, ground := Ground.data }], guard := none }) (v := ?_) rfl (by kernel_rfl) (by kernel_rfl) (by kernel_rfl) (by rfl) ?_ ?_
    rotate_left
    · intro W hW; first | (go_simp; done) | (go_simp; with_reducible rfl)
    try simp only [Act.put, List.setIfInBounds_toArray, List.set_cons_zero, List.set_cons_succ]
    refine wpG_take (i := 17) (oi := { dst := some 11, op := Op.assign (Operand.tmp 59), type := 4, pos := "law.go:60", after := #[{ on := 16, ground := Ground.data }, { on := 10, ground := Ground.chain }, { on := 0, ground := Ground.phase }, { on := 1, ground := Ground.phase }, { on := 2, ground := Ground.phase }, { on := 3, ground := Ground.phase }, { on := 4, ground := Ground.phase }, { on := 5, ground := Ground.phase }, { on := 6, ground := Ground.phase }, { on := 7, ground := Ground.phase }, { on := 8, ground := Ground.phase }, { on := 9, ground := Ground.phase }, { on := 10, ground := Ground.phase }, { on := 11, ground := Ground.phase }, { on := 12, ground := Ground.phase }, { on := 13, ground := Ground.phase }, { on := 14, ground := Ground.phase }, { on := 15, ground := Ground.phase }, { on := 16, ground := Ground.phase }], guard := none }) (v := ?_) rfl (by kernel_rfl) (by kernel_rfl) (by kernel_rfl) (by rfl) ?_ ?_
    rotate_left
    · intro W hW; first | (go_simp; done) | (go_simp; with_reducible rfl)
    try simp only [Act.put, List.setIfInBounds_toArray, List.set_cons_zero, List.set_cons_succ]
    refine wpG_done (by kernel_rfl) ?_
    have hNx := NX.out.kept hN4.2
    have HLX : Hid ((clL k).length = 32) := by show _ = _; rw [clL_length, HL.out]
    generalize clL k = X at hNx HLX
    obtain ⟨g, c, rfl, hc, -, -, -⟩ := hNx.store (j := 0) (by have := HLX.out; omega)
    rw [HLX.out] at hNx hc
    rw [HLX.out]
    clear NX KX KP KQ K1 k4 p4 q4 hN4
    go_wp2_with fail
    go_loopw [12] (fun iv wx => ∃ (i : Nat) (l : List UInt8), i ≤ 32 ∧ iv = .int .i64 (i : Int) ∧ Hid (l.length = 32) ∧ New 5 wa (.slice (some ⟨g, 0, none⟩) 32 c) l wx) (fun iv _ => 32 - (intOf iv).toNat)
    case atStart => exact ⟨0, X, by omega, rfl, HLX, hNx⟩
    case round =>
      obtain ⟨i, l, hi, rfl, HLl, hN⟩ := hrel
      clear hNx
      by_cases hlt : i < 32
      · have hd : decide ((i : Int) < 32) = true := decide_eq_true (by omega)
        have hiI : (i : Int) < 32 := by omega
        obtain ⟨g', c', ev, -, hcell, hfree, hset⟩ := hN.store (j := i) (by have := HLl.out; omega)
        simp only [Value.slice.injEq, Option.some.injEq, Addr.mk.injEq, and_true, true_and] at ev
        obtain ⟨rfl, -, rfl⟩ := ev
        have hNn := hset (l.getD i 0 ^^^ 255)
        have HLn : Hid ((l.set i (l.getD i 0 ^^^ 255)).length = 32) := by show _ = _; rw [List.length_set, HLl.out]
        generalize l.set i (l.getD i 0 ^^^ 255) = l' at hNn HLn
        have xx : bits .xor .u8 (((l.getD i 0).toNat : Nat) : Int) 255 = (((l.getD i 0 ^^^ 255).toNat : Nat) : Int) := byte_xor _ 255
        generalize l.getD i 0 ^^^ 255 = y' at hNn xx
        generalize l.getD i 0 = y at hcell xx
        clear hset hN
        go_wp2
        go_roundw
        case rel => exact ⟨i + 1, l', by omega, by go_num, HLn, hNn⟩
        case measure => simp [intOf] <;> omega
      · have hd : decide ((i : Int) < 32) = false := decide_eq_false (by omega)
        have hiI : (32 : Int) ≤ (i : Int) := by omega
        have kf := hk.kept hN.2
        have hcv := conv_any kf
        replace hbw := stepB hbw hN.2
        clear hN kf hk
        go_wp2
        go_ret
        exact ⟨rfl, hbw⟩
  · have hne : ((k.length : Int) != 32) = true := by simp; omega
    refine (clamp_arg _ k _ hk hl).mono ?_
    rintro e w1 ⟨rfl, rfl⟩
    clear hl
    go_wp2
    go_ret
    exact ⟨rfl, hbw⟩
end Go.Proofs.Ythokfcmnijpkhaa
