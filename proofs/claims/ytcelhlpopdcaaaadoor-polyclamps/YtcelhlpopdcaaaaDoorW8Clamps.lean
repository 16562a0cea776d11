/- What the law PolyClamps answers at every input: the walk. -/
import Derived.Test.YtcelhlpopdcaaaaDoorP08g
namespace Go.Proofs.YtcelhlpopdcaaaaDoor
open Go.ChangeShapes Go.WideShapes Go.ChangeAt Go.RowKit
set_option linter.unusedSimpArgs false
set_option linter.unusedVariables false

set_option maxRecDepth 100000 in
set_option maxHeartbeats 4000000 in
theorem clamps_walk (vk : Value) (k : List UInt8) (w : World) (hk : Rd w vk k) (ht : KpT w) :
    Calls Tryd.prog 4 #[vk] w fun e w' => e = .returned (.bool true) ∧ Below w.heap.size w w' := by
  go_enter Tryd.func4, Tryd.ntmps4
  go_wp2_with fail
  refine (awake_any _ ht).mono ?_
  rintro e w1 ⟨rfl, b1⟩
  have hk1 := hk.kept b1
  have HT : Hid (KpT w1) := ht.kept b1
  have hcv := conv_any hk1
  clear hk ht
  go_wp2_with fail
  refine (clamp_all _ k _ HT.out hk1).mono ?_
  rintro e w2 ⟨v2, rfl, hN2⟩
  have hk2 := hk1.kept hN2.2
  have hx2 := hN2.rd
  have HXL : Hid ((clA k).length ≤ 16) := clA_le k
  clear hcv
  go_wp2_with fail
  refine wpG_begin (by kernel_rfl) ?_
  refine wpG_take (i := 0) (oi := { dst := some 15, op := Op.move (Operand.tmp 5), type := 22, pos := "law.go:43", after := #[], guard := none }) (v := ?_) rfl (by kernel_rfl) (by kernel_rfl) (by kernel_rfl) (by rfl) ?_ ?_
  rotate_left
  · intro W hW; first | (go_simp; done) | (go_simp; with_reducible rfl)
  try simp only [Act.put, List.setIfInBounds_toArray, List.set_cons_zero, List.set_cons_succ]
  refine wpG_take (i := 1) (oi := { dst := some 16, op := Op.convert 22 9 (Operand.tmp 15), type := 9, pos := "law.go:43", after := #[{ on := 0, ground := Ground.data }], guard := none }) (v := ?_) rfl (by kernel_rfl) (by kernel_rfl) (by kernel_rfl) (by rfl) ?_ ?_
  rotate_left
  · intro W hW; have hcv := conv_any (hx2.drew.kept hW); first | (go_simp; done) | (go_simp; with_reducible rfl)
  try simp only [Act.put, List.setIfInBounds_toArray, List.set_cons_zero, List.set_cons_succ]
  refine wpG_take (i := 2) (oi := { dst := some 17, op := Op.move (Operand.tmp 0), type := 22, pos := "law.go:43", after := #[], guard := none }) (v := ?_) rfl (by kernel_rfl) (by kernel_rfl) (by kernel_rfl) (by rfl) ?_ ?_
  rotate_left
  · intro W hW; first | (go_simp; done) | (go_simp; with_reducible rfl)
  try simp only [Act.put, List.setIfInBounds_toArray, List.set_cons_zero, List.set_cons_succ]
  refine wpG_do (i := 3) (o := { dst := some 18, op := Op.call { callee := Callee.value (Operand.func 12), args := #[Operand.tmp 17], argTypes := #[22] }, type := 22, pos := "law.go:43", after := #[{ on := 2, ground := Ground.data }], guard := none }) (by kernel_rfl) rfl (by rfl) fun K hK => ?_
  go_simp
  refine (clampR_all _ k _ hk2.drew).mono ?_
  rintro e w3 ⟨v3, rfl, hN3⟩
  refine hK.out _ _ hN3.2 ?_
  clear hK K
  have hR3 := hN3.rd
  try simp only [Act.put, List.setIfInBounds_toArray, List.set_cons_zero, List.set_cons_succ]
  refine wpG_take (i := 4) (oi := { dst := some 19, op := Op.convert 22 9 (Operand.tmp 18), type := 9, pos := "law.go:43", after := #[{ on := 3, ground := Ground.data }], guard := none }) (v := ?_) rfl (by kernel_rfl) (by kernel_rfl) (by kernel_rfl) (by rfl) ?_ ?_
  rotate_left
  · intro W hW; have hcv := conv_any (hR3.kept hW); first | (go_simp; done) | (go_simp; with_reducible rfl)
  try simp only [Act.put, List.setIfInBounds_toArray, List.set_cons_zero, List.set_cons_succ]
  refine wpG_take (i := 5) (oi := { dst := some 20, op := Op.binOp BinOp.eql 9 (Operand.tmp 16) (Operand.tmp 19) 9, type := 4, pos := "law.go:43", after := #[{ on := 1, ground := Ground.data }, { on := 4, ground := Ground.data }], guard := none }) (v := ?_) rfl (by kernel_rfl) (by kernel_rfl) (by kernel_rfl) (by rfl) ?_ ?_
  rotate_left
  · intro W hW; first | (go_simp; done) | (go_simp; with_reducible rfl)
  try simp only [Act.put, List.setIfInBounds_toArray, List.set_cons_zero, List.set_cons_succ]
  refine wpG_take (i := 6) (oi := { dst := some 6, op := Op.assign (Operand.tmp 20), type := 4, pos := "law.go:43", after := #[{ on := 5, ground := Ground.data }, { on := 3, ground := Ground.chain }, { on := 0, ground := Ground.phase }, { on := 1, ground := Ground.phase }, { on := 2, ground := Ground.phase }, { on := 3, ground := Ground.phase }, { on := 4, ground := Ground.phase }, { on := 5, ground := Ground.phase }], guard := none }) (v := ?_) rfl (by kernel_rfl) (by kernel_rfl) (by kernel_rfl) (by rfl) ?_ ?_
  rotate_left
  · intro W hW; first | (go_simp; done) | (go_simp; with_reducible rfl)
  try simp only [Act.put, List.setIfInBounds_toArray, List.set_cons_zero, List.set_cons_succ]
  refine wpG_done (by kernel_rfl) ?_
  have hNx := hN2.drew.kept hN3.2
  obtain ⟨ax, cx, rfl, -, hmx, -, -⟩ := id hNx.rd
  unfold maxLen at hmx
  generalize clA k = X at hNx HXL ⊢
  obtain ⟨L, hL⟩ : ∃ L : Nat, L = X.length := ⟨_, rfl⟩
  rw [← hL] at hNx HXL ⊢
  have HLX : Hid (X.length = L) := hL.symm
  have hL2 : L ≤ 16 := HXL.out
  clear hN2 hx2 hN3 hR3 hk2 hL
  go_wp2_with fail
  go_loopw [7] (fun iv wx => ∃ (i : Nat) (l : List UInt8), i ≤ L ∧ iv = .int .i64 (i : Int) ∧ Hid (l.length = L) ∧ New 5 w1 (.slice ax L cx) l wx) (fun iv _ => L - (intOf iv).toNat)
  case atStart => exact ⟨0, X, by omega, rfl, HLX, hNx⟩
  case round =>
    obtain ⟨i, l, hi, rfl, HLl, hN⟩ := hrel
    clear hNx
    by_cases hlt : i < L
    · have hd : decide ((i : Int) < (L : Int)) = true := decide_eq_true (by omega)
      have hiI : (i : Int) < (L : Int) := by omega
      obtain ⟨g', c', ev, -, hcell, hfree, hset⟩ := hN.store (j := i) (by have := HLl.out; omega)
      simp only [Value.slice.injEq, Option.some.injEq, Addr.mk.injEq, and_true, true_and] at ev
      obtain ⟨rfl, -, rfl⟩ := ev
      have hNn := hset (l.getD i 0 ^^^ 255)
      have HLn : Hid ((l.set i (l.getD i 0 ^^^ 255)).length = L) := by show _ = _; rw [List.length_set, HLl.out]
      generalize l.set i (l.getD i 0 ^^^ 255) = l' at hNn HLn
      have xx : bits .xor .u8 (((l.getD i 0).toNat : Nat) : Int) 255 = (((l.getD i 0 ^^^ 255).toNat : Nat) : Int) := byte_xor _ 255
      generalize l.getD i 0 ^^^ 255 = y' at hNn xx
      generalize l.getD i 0 = y at hcell xx
      clear hset hN
      go_wp2
      go_roundw
      case rel => exact ⟨i + 1, l', by omega, by go_num, HLn, hNn⟩
      case measure => simp [intOf] <;> omega
    · have hd : decide ((i : Int) < (L : Int)) = false := decide_eq_false (by omega)
      have hiI : (L : Int) ≤ (i : Int) := by omega
      have kf := hk1.kept hN.2
      have hcv := conv_any kf
      have HB : Hid _ := stepB b1 hN.2
      clear hN kf hk1 b1
      go_wp2
      go_ret
      exact ⟨rfl, HB.out⟩
end Go.Proofs.YtcelhlpopdcaaaaDoor
