/- What the law ChachaStreams answers at every input: the walk. -/
import Derived.Test.YtlggnknblfclkaaDoorC07e
namespace Go.Proofs.YtlggnknblfclkaaDoor
open Go.ChangeShapes Go.WideShapes Go.ChangeAt Go.RowKit
set_option linter.unusedSimpArgs false
set_option linter.unusedVariables false

theorem stream_all (vk vn vb : Value) (k n b : List UInt8) (c : Nat) (C : Int) (hC : C = (c : Int)) (hc : c < 4294967296) (w : World) (hT : PlT w) (hk : Rd w vk k) (hn : Rd w vn n) (hb : Rd w vb b) (hbl : b.length ≤ 100000000) :
    Calls Tryd.prog 13 #[vk, .int .u32 C, vn, vb] w fun e w' => ∃ r, e = .returned r ∧ New 5 w r (if k.length = 32 ∧ n.length = 12 then smL k c n b else []) w' := by
  by_cases h : k.length = 32 ∧ n.length = 12
  · rw [if_pos h]
    exact stream_any vk vn vb k n b c C hC hc w hT hk hn hb h.1 h.2 hbl
  · rw [if_neg h]
    refine (stream_arg vk vn vb k n C w hk hn h).mono ?_
    rintro e w' ⟨rfl, rfl⟩
    exact ⟨_, rfl, New.start _⟩
theorem streamR_all (vk vn vb : Value) (k n b : List UInt8) (c : Nat) (C : Int) (hC : C = (c : Int)) (hc : c < 4294967296) (w : World) (hk : Rd w vk k) (hn : Rd w vn n) (hb : Rd w vb b) (hbl : b.length ≤ 100000000) :
    Calls Tryd.prog 14 #[vk, .int .u64 C, vn, vb] w fun e w' => ∃ r, e = .returned r ∧ New 5 w r (if k.length = 32 ∧ n.length = 12 then smL k c n b else []) w' := by
  by_cases h : k.length = 32 ∧ n.length = 12
  · rw [if_pos h]
    exact streamR_any vk vn vb k n b c C hC hc w hk hn hb h.1 h.2 hbl
  · rw [if_neg h]
    refine (streamR_arg vk vn vb k n b C w hk hn h).mono ?_
    rintro e w' ⟨rfl, rfl⟩
    exact ⟨_, rfl, New.start _⟩

set_option maxRecDepth 100000 in
set_option maxHeartbeats 4000000 in
theorem streams_walk (vk vn vb : Value) (k n b : List UInt8) (C : Int) (hC : (Lit.int .u32 C).wf = true) (w : World) (hk : Rd w vk k) (hn : Rd w vn n) (hb : Rd w vb b) (ht : PlT w) :
    Calls Tryd.prog 5 #[vk, .int .u32 C, vn, vb] w fun e w' => e = .returned (.bool true) ∧ Below w.heap.size w w' := by
  obtain ⟨c, rfl, hc⟩ := nat_u32 hC
  have ec : IntKind.u64.wrap (c : Int) = (c : Int) := by rw [IntKind.wrap_u64]; omega
  have HC : Hid _ := hc
  obtain ⟨ab, cb, rfl, -, hmb, -, -⟩ := id hb
  unfold maxLen at hmb
  clear hC
  by_cases hbl : b.length ≤ 2000
  · have d1 : decide ((2000 : Int) < (b.length : Int)) = false := decide_eq_false (by omega)
    have g1 : (b.length : Int) ≤ 2000 := by omega
    have HL : Hid (b.length ≤ 2000) := hbl
    clear hbl
    go_enter Tryd.func5, Tryd.ntmps5
    go_wp2_with fail
    refine (awake_any _ ht).mono ?_
    rintro e w1 ⟨rfl, b1⟩
    have HK : Hid (Rd w1 vk k) := hk.kept b1
    have HN : Hid (Rd w1 vn n) := hn.kept b1
    have HT : Hid (PlT w1) := ht.kept b1
    have hb1 := hb.kept b1
    have hcv := conv_any hb1
    clear hk hn ht hb
    go_wp2_with fail
    refine (stream_all _ _ _ k n b c _ rfl HC.out _ HT.out HK.out HN.out hb1 (by have := HL.out; omega)).mono ?_
    rintro e w2 ⟨v2, rfl, hN2⟩
    have HK2 : Hid (Rd w2 vk k) := Rd.kept HK.out hN2.2
    have HN2 : Hid (Rd w2 vn n) := Rd.kept HN.out hN2.2
    have hb2 := hb1.kept hN2.2
    obtain ⟨X, hX⟩ : ∃ X : List UInt8, X = if k.length = 32 ∧ n.length = 12 then smL k c n b else [] := ⟨_, rfl⟩
    rw [← hX] at hN2
    have HX : Hid _ := hX
    have HXL : Hid (X.length ≤ 2000) := by
      show _ ≤ _
      rw [hX]
      split
      · rw [smL_length]; exact HL.out
      · simp
    have hx2 := hN2.rd
    clear hX hcv
    go_wp2_with fail
    refine wpG_begin (by kernel_rfl) ?_
    refine wpG_take (i := 0) (oi := { dst := some 27, op := Op.move (Operand.tmp 11), type := 30, pos := "law.go:47", after := #[], guard := none }) (v := ?_) rfl (by kernel_rfl) (by kernel_rfl) (by kernel_rfl) (by rfl) ?_ ?_
    rotate_left
    · intro W hW; first | (go_simp; done) | (go_simp; with_reducible rfl)
    try simp only [Act.put, List.setIfInBounds_toArray, List.set_cons_zero, List.set_cons_succ]
    refine wpG_take (i := 1) (oi := { dst := some 28, op := Op.convert 30 9 (Operand.tmp 27), type := 9, pos := "law.go:47", after := #[{ on := 0, ground := Ground.data }], guard := none }) (v := ?_) rfl (by kernel_rfl) (by kernel_rfl) (by kernel_rfl) (by rfl) ?_ ?_
    rotate_left
    · intro W hW; have hcv := conv_any (hx2.drew.kept hW); first | (go_simp; done) | (go_simp; with_reducible rfl)
    try simp only [Act.put, List.setIfInBounds_toArray, List.set_cons_zero, List.set_cons_succ]
    refine wpG_take (i := 2) (oi := { dst := some 29, op := Op.move (Operand.tmp 0), type := 30, pos := "law.go:47", after := #[], guard := none }) (v := ?_) rfl (by kernel_rfl) (by kernel_rfl) (by kernel_rfl) (by rfl) ?_ ?_
    rotate_left
    · intro W hW; first | (go_simp; done) | (go_simp; with_reducible rfl)
    try simp only [Act.put, List.setIfInBounds_toArray, List.set_cons_zero, List.set_cons_succ]
    refine wpG_take (i := 3) (oi := { dst := some 30, op := Op.move (Operand.tmp 1), type := 22, pos := "law.go:47", after := #[], guard := none }) (v := ?_) rfl (by kernel_rfl) (by kernel_rfl) (by kernel_rfl) (by rfl) ?_ ?_
    rotate_left
    · intro W hW; first | (go_simp; done) | (go_simp; with_reducible rfl)
    try simp only [Act.put, List.setIfInBounds_toArray, List.set_cons_zero, List.set_cons_succ]
    refine wpG_take (i := 4) (oi := { dst := some 31, op := Op.convert 22 26 (Operand.tmp 30), type := 26, pos := "law.go:47", after := #[{ on := 3, ground := Ground.data }], guard := none }) (v := ?_) rfl (by kernel_rfl) (by kernel_rfl) (by kernel_rfl) (by rfl) ?_ ?_
    rotate_left
    · intro W hW; first | (go_simp; done) | (go_simp; with_reducible rfl)
    try simp only [Act.put, List.setIfInBounds_toArray, List.set_cons_zero, List.set_cons_succ]
    refine wpG_take (i := 5) (oi := { dst := some 32, op := Op.move (Operand.tmp 2), type := 30, pos := "law.go:47", after := #[], guard := none }) (v := ?_) rfl (by kernel_rfl) (by kernel_rfl) (by kernel_rfl) (by rfl) ?_ ?_
    rotate_left
    · intro W hW; first | (go_simp; done) | (go_simp; with_reducible rfl)
    try simp only [Act.put, List.setIfInBounds_toArray, List.set_cons_zero, List.set_cons_succ]
    refine wpG_take (i := 6) (oi := { dst := some 33, op := Op.move (Operand.tmp 3), type := 30, pos := "law.go:47", after := #[], guard := none }) (v := ?_) rfl (by kernel_rfl) (by kernel_rfl) (by kernel_rfl) (by rfl) ?_ ?_
    rotate_left
    · intro W hW; first | (go_simp; done) | (go_simp; with_reducible rfl)
    try simp only [Act.put, List.setIfInBounds_toArray, List.set_cons_zero, List.set_cons_succ]
    refine wpG_do (i := 7) (o := { dst := some 34, op := Op.call { callee := Callee.value (Operand.func 14), args := #[Operand.tmp 29, Operand.tmp 31, Operand.tmp 32, Operand.tmp 33], argTypes := #[30, 26, 30, 30] }, type := 30, pos := "law.go:47", after := #[{ on := 2, ground := Ground.data }, { on := 4, ground := Ground.data }, { on := 5, ground := Ground.data }, { on := 6, ground := Ground.data }], guard := none }) (by kernel_rfl) rfl (by rfl) fun K hK => ?_
    go_simp
    refine (streamR_all _ _ _ k n b c _ rfl HC.out _ (Rd.drew HK2.out) (Rd.drew HN2.out) hb2.drew (by have := HL.out; omega)).mono ?_
    rintro e w3 ⟨v3, rfl, hN3⟩
    rw [← HX.out] at hN3
    refine hK.out _ _ hN3.2 ?_
    clear hK K
    have hR3 := hN3.rd
    try simp only [Act.put, List.setIfInBounds_toArray, List.set_cons_zero, List.set_cons_succ]
    refine wpG_take (i := 8) (oi := { dst := some 35, op := Op.convert 30 9 (Operand.tmp 34), type := 9, pos := "law.go:47", after := #[{ on := 7, ground := Ground.data }], guard := none }) (v := ?_) rfl (by kernel_rfl) (by kernel_rfl) (by kernel_rfl) (by rfl) ?_ ?_
    rotate_left
    · intro W hW; have hcv := conv_any (hR3.kept hW); first | (go_simp; done) | (go_simp; with_reducible rfl)
    try simp only [Act.put, List.setIfInBounds_toArray, List.set_cons_zero, List.set_cons_succ]
    refine wpG_take (i := 9) (oi := { dst := some 36, op := Op.binOp BinOp.eql 9 (Operand.tmp 28) (Operand.tmp 35) 9, type := 4, pos := "law.go:47", after := #[{ on := 1, ground := Ground.data }, { on := 8, ground := Ground.data }], guard := none }) (v := ?_) rfl (by kernel_rfl) (by kernel_rfl) (by kernel_rfl) (by rfl) ?_ ?_
    rotate_left
    · intro W hW; first | (go_simp; done) | (go_simp; with_reducible rfl)
    try simp only [Act.put, List.setIfInBounds_toArray, List.set_cons_zero, List.set_cons_succ]
    refine wpG_take (i := 10) (oi := { dst := some 12, op := Op.assign (Operand.tmp 36), type := 4, pos := "law.go:47", after := #[{ on := 9, ground := Ground.data }, { on := 7, ground := Ground.chain }, { on := 0, ground := Ground.phase }, { on := 1, ground := Ground.phase }, { on := 2, ground := Ground.phase }, { on := 3, ground := Ground.phase }, { on := 4, ground := Ground.phase }, { on := 5, ground := Ground.phase }, { on := 6, ground := Ground.phase }, { on := 7, ground := Ground.phase }, { on := 8, ground := Ground.phase }, { on := 9, ground := Ground.phase }], guard := none }) (v := ?_) rfl (by kernel_rfl) (by kernel_rfl) (by kernel_rfl) (by rfl) ?_ ?_
    rotate_left
    · intro W hW; first | (go_simp; done) | (go_simp; with_reducible rfl)
    try simp only [Act.put, List.setIfInBounds_toArray, List.set_cons_zero, List.set_cons_succ]
    refine wpG_done (by kernel_rfl) ?_
    have hNx := hN2.drew.kept hN3.2
    obtain ⟨ax, cx, rfl, -, hmx, -, -⟩ := id hNx.rd
    unfold maxLen at hmx
    obtain ⟨L, hL⟩ : ∃ L : Nat, L = X.length := ⟨_, rfl⟩
    rw [← hL] at hNx HXL ⊢
    have HLX : Hid (X.length = L) := hL.symm
    have hL2 : L ≤ 2000 := HXL.out
    clear hN2 hx2 hN3 hR3 hb2 HK2 HN2 hL
    go_wp2_with fail
    go_loopw [13] (fun iv wx => ∃ (i : Nat) (l : List UInt8), i ≤ L ∧ iv = .int .i64 (i : Int) ∧ Hid (l.length = L) ∧ New 5 w1 (.slice ax L cx) l wx) (fun iv _ => L - (intOf iv).toNat)
    case atStart => exact ⟨0, X, by omega, rfl, HLX, hNx⟩
    case round =>
      obtain ⟨i, l, hi, rfl, HLl, hN⟩ := hrel
      clear hNx
      by_cases hlt : i < L
      · have hd : decide ((i : Int) < (L : Int)) = true := decide_eq_true (by omega)
        have hiI : (i : Int) < (L : Int) := by omega
        obtain ⟨g', c', ev, -, hcell, hfree, hset⟩ := hN.store (j := i) (by have := HLl.out; omega)
        simp only [Value.slice.injEq, Option.some.injEq, Addr.mk.injEq, and_true, true_and] at ev
        obtain ⟨rfl, -, rfl⟩ := ev
        have hNn := hset (l.getD i 0 ^^^ 255)
        have HLn : Hid ((l.set i (l.getD i 0 ^^^ 255)).length = L) := by show _ = _; rw [List.length_set, HLl.out]
        generalize l.set i (l.getD i 0 ^^^ 255) = l' at hNn HLn
        have xx : bits .xor .u8 (((l.getD i 0).toNat : Nat) : Int) 255 = (((l.getD i 0 ^^^ 255).toNat : Nat) : Int) := byte_xor _ 255
        generalize l.getD i 0 ^^^ 255 = y' at hNn xx
        generalize l.getD i 0 = y at hcell xx
        clear hset hN
        go_wp2
        go_roundw
        case rel => exact ⟨i + 1, l', by omega, by go_num, HLn, hNn⟩
        case measure => simp [intOf] <;> omega
      · have hd : decide ((i : Int) < (L : Int)) = false := decide_eq_false (by omega)
        have hiI : (L : Int) ≤ (i : Int) := by omega
        have kf := hb1.kept hN.2
        have hcv := conv_any kf
        have HB : Hid _ := stepB b1 hN.2
        clear hN kf hb1 b1
        go_wp2
        go_ret
        exact ⟨rfl, HB.out⟩
  · have d1 : decide ((2000 : Int) < (b.length : Int)) = true := decide_eq_true (by omega)
    have g1 : (2000 : Int) < (b.length : Int) := by omega
    go_enter Tryd.func5, Tryd.ntmps5
    go_wp2_with fail
    refine (awake_any _ ht).mono ?_
    rintro e w1 ⟨rfl, b1⟩
    go_wp2
    go_ret
    exact ⟨rfl, b1⟩
end Go.Proofs.YtlggnknblfclkaaDoor
