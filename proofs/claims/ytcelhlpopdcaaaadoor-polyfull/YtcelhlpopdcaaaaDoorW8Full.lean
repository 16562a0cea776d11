/- What the law PolyFull answers at every input: the walk. -/
import Derived.Test.YtcelhlpopdcaaaaDoorP08g
namespace Go.Proofs.YtcelhlpopdcaaaaDoor
open Go.ChangeShapes Go.WideShapes Go.ChangeAt Go.RowKit
set_option linter.unusedSimpArgs false
set_option linter.unusedVariables false

theorem nat_u8 {A : Int} (h : (Lit.int .u8 A).wf = true) : ∃ a : UInt8, A = (a.toNat : Int) := by
  have := bounds_u8 h
  refine ⟨UInt8.ofNat A.toNat, ?_⟩
  rw [UInt8.toNat_ofNat']
  omega

set_option maxRecDepth 100000 in
set_option maxHeartbeats 4000000 in
theorem full_walk (C K : Int) (n : Int) (hC : (Lit.int .u8 C).wf = true) (hK : (Lit.int .u8 K).wf = true) (w : World) (ht : KpT w) :
    Calls Tryd.prog 7 #[.int .u8 C, .int .u8 K, .int .i64 n] w fun e w' => e = .returned (.bool true) ∧ Below w.heap.size w w' := by
  obtain ⟨ti, hti, hz0, hz1, hz2⟩ := info_parts info5
  obtain ⟨c, rfl⟩ := nat_u8 hC
  obtain ⟨q, rfl⟩ := nat_u8 hK
  obtain ⟨X, hX, hXa⟩ := and_small n 255 (by decide)
  have hXa' : bits .and .i64 n 255 = (X : Int) := hXa
  clear hC hK hXa
  go_enter Tryd.func7, Tryd.ntmps7
  go_wp2_with fail
  refine (awake_any _ ht).mono ?_
  rintro e w1 ⟨rfl, b1⟩
  have HT : Hid (KpT w1) := ht.kept b1
  have HB1 : Hid _ := b1
  clear ht b1
  go_wp2_with (at_make; go_must (refine wpList_make_full _ rfl _ _ 22 rfl w1.heap.size 5 ti _ 1 Tryd.underlying22 hti hz0 hz1 _ _ _ _ 32 rfl rfl rfl rfl (by rw [hz2]; omega) (by unfold maxLen; omega) (Nat.le_refl _) ?_))
  intro w2 hown hgr
  have hN1 := New.made hown hgr
  have HlR : Hid ((List.replicate 32 (0 : UInt8)).length = 32) := by show _ = _; simp
  generalize List.replicate 32 (0 : UInt8) = Z at hN1 HlR
  clear hown hgr
  go_wp2
  go_loopw [9] (fun iv wx => ∃ (i : Nat) (l : List UInt8), i ≤ 32 ∧ iv = .int .i64 (i : Int) ∧ Hid (l.length = 32) ∧ New 5 w1 (.slice (some ⟨w1.heap.size, 0, none⟩) 32 32) l wx) (fun iv _ => 32 - (intOf iv).toNat)
  case atStart => exact ⟨0, Z, by omega, rfl, HlR, hN1⟩
  case round =>
    obtain ⟨i, l, hi, rfl, HLl, hN⟩ := hrel
    clear hN1
    by_cases hlt : i < 32
    · have hd : decide ((i : Int) < 32) = true := decide_eq_true (by omega)
      have hiI : (i : Int) < 32 := by omega
      obtain ⟨g', c', ev, -, hcell, hfree, hset⟩ := hN.store (j := i) (by have := HLl.out; omega)
      simp only [Value.slice.injEq, Option.some.injEq, Addr.mk.injEq, and_true, true_and] at ev
      obtain ⟨rfl, -, rfl⟩ := ev
      have hNn := hset q
      have HLn : Hid ((l.set i q).length = 32) := by show _ = _; rw [List.length_set, HLl.out]
      generalize l.set i q = l' at hNn HLn
      clear hset hN
      go_wp2
      go_roundw
      case rel => exact ⟨i + 1, l', by omega, by go_num, HLn, hNn⟩
      case measure => simp [intOf] <;> omega
    · have hd : decide ((i : Int) < 32) = false := decide_eq_false (by omega)
      have hiI : (32 : Int) ≤ (i : Int) := by omega
      have hKr : Rd wr (.slice (some ⟨w1.heap.size, 0, none⟩) 32 32) l := hN.rd
      have hb := stepB HB1.out hN.2
      have HT2 : Hid (KpT wr) := HT.out.kept hN.2
      clear hN
      go_wp2_with (at_make; go_must (refine wpList_make_full _ rfl _ _ 22 rfl wr.heap.size 5 ti _ 1 Tryd.underlying22 hti hz0 hz1 _ _ _ _ X rfl rfl rfl rfl (by rw [hz2]; omega) (by unfold maxLen; omega) (Nat.le_refl _) ?_))
      intro w3 hown hgr
      have hN3 := New.made hown hgr
      have HlX : Hid ((List.replicate X (0 : UInt8)).length = X) := by show _ = _; simp
      generalize List.replicate X (0 : UInt8) = Y at hN3 HlX
      clear hown hgr
      go_wp2
      go_loopw [11] (fun iv wx => ∃ (j : Nat) (m : List UInt8), j ≤ X ∧ iv = .int .i64 (j : Int) ∧ Hid (m.length = X) ∧ New 5 wr (.slice (some ⟨wr.heap.size, 0, none⟩) X X) m wx) (fun iv _ => X - (intOf iv).toNat)
      case atStart => exact ⟨0, Y, by omega, rfl, HlX, hN3⟩
      case round =>
        obtain ⟨j, m, hj, rfl, HLm, hNm⟩ := hrel
        clear hN3
        by_cases hltj : j < X
        · have hdj : decide ((j : Int) < (X : Int)) = true := decide_eq_true (by omega)
          have hjI : (j : Int) < (X : Int) := by omega
          obtain ⟨g', c', ev, -, hcell, hfree, hset⟩ := hNm.store (j := j) (by have := HLm.out; omega)
          simp only [Value.slice.injEq, Option.some.injEq, Addr.mk.injEq, and_true, true_and] at ev
          obtain ⟨rfl, -, rfl⟩ := ev
          have hNn := hset c
          have HLn : Hid ((m.set j c).length = X) := by show _ = _; rw [List.length_set, HLm.out]
          generalize m.set j c = m' at hNn HLn
          clear hset hNm
          go_wp2
          go_roundw
          case rel => exact ⟨j + 1, m', by omega, by go_num, HLn, hNn⟩
          case measure => simp [intOf] <;> omega
        · have hdj : decide ((j : Int) < (X : Int)) = false := decide_eq_false (by omega)
          have hjI : (X : Int) ≤ (j : Int) := by omega
          rename World => wz
          have HKr : Hid (Rd _ (.slice (some ⟨w1.heap.size, 0, none⟩) 32 32) l) := hKr.kept hNm.2
          have HBr : Hid (Rd _ (.slice (some ⟨wr.heap.size, 0, none⟩) X X) m) := hNm.rd
          have HT3 : Hid (KpT _) := HT2.out.kept hNm.2
          have HB3 : Hid _ := stepB hb hNm.2
          have HX : Hid (m.length ≤ 7000000) := by show _ ≤ _; rw [HLm.out]; omega
          clear hKr hNm hb
          go_wp2_with fail
          refine wpG_begin (by kernel_rfl) ?_
          refine wpG_take (i := 0) (oi := { dst := some 37, op := Op.move (Operand.tmp 8), type := 22, pos := "law.go:111", after := #[], guard := none }) (v := ?_) rfl (by kernel_rfl) (by kernel_rfl) (by kernel_rfl) (by rfl) ?_ ?_
          rotate_left
          · intro W hW; first | (go_simp; done) | (go_simp; with_reducible rfl)
          try simp only [Act.put, List.setIfInBounds_toArray, List.set_cons_zero, List.set_cons_succ]
          refine wpG_take (i := 1) (oi := { dst := some 38, op := Op.move (Operand.tmp 10), type := 22, pos := "law.go:111", after := #[], guard := none }) (v := ?_) rfl (by kernel_rfl) (by kernel_rfl) (by kernel_rfl) (by rfl) ?_ ?_
          rotate_left
          · intro W hW; first | (go_simp; done) | (go_simp; with_reducible rfl)
          try simp only [Act.put, List.setIfInBounds_toArray, List.set_cons_zero, List.set_cons_succ]
          refine wpG_take (i := 4) (oi := { dst := some 41, op := Op.move (Operand.tmp 8), type := 22, pos := "law.go:111", after := #[], guard := none }) (v := ?_) rfl (by kernel_rfl) (by kernel_rfl) (by kernel_rfl) (by rfl) ?_ ?_
          rotate_left
          · intro W hW; first | (go_simp; done) | (go_simp; with_reducible rfl)
          try simp only [Act.put, List.setIfInBounds_toArray, List.set_cons_zero, List.set_cons_succ]
          refine wpG_take (i := 5) (oi := { dst := some 42, op := Op.move (Operand.tmp 10), type := 22, pos := "law.go:111", after := #[], guard := none }) (v := ?_) rfl (by kernel_rfl) (by kernel_rfl) (by kernel_rfl) (by rfl) ?_ ?_
          rotate_left
          · intro W hW; first | (go_simp; done) | (go_simp; with_reducible rfl)
          try simp only [Act.put, List.setIfInBounds_toArray, List.set_cons_zero, List.set_cons_succ]
          refine wpG_do (i := 2) (o := { dst := some 39, op := Op.call { callee := Callee.value (Operand.func 9), args := #[Operand.tmp 37, Operand.tmp 38], argTypes := #[22, 22] }, type := 22, pos := "law.go:111", after := #[{ on := 0, ground := Ground.data }, { on := 1, ground := Ground.data }], guard := none }) (by kernel_rfl) rfl (by rfl) fun K hK => ?_
          go_simp
          refine (mac_all _ _ l m _ (KpT.kept HT3.out (Below.refl _ _).drew) (Rd.drew HKr.out) (Rd.drew HBr.out)).mono ?_
          rintro e w5 ⟨v3, rfl, hN3⟩
          refine hK.out _ _ hN3.2 ?_
          clear hK K
          have k3 := (Rd.drew HKr.out).kept hN3.2
          have m3 := (Rd.drew HBr.out).kept hN3.2
          have x3 := hN3.rd
          try simp only [Act.put, List.setIfInBounds_toArray, List.set_cons_zero, List.set_cons_succ]
          refine wpG_take (i := 3) (oi := { dst := some 40, op := Op.convert 22 9 (Operand.tmp 39), type := 9, pos := "law.go:111", after := #[{ on := 2, ground := Ground.data }], guard := none }) (v := ?_) rfl (by kernel_rfl) (by kernel_rfl) (by kernel_rfl) (by rfl) ?_ ?_
          rotate_left
          · intro W hW; have hcv := conv_any (x3.kept hW); first | (go_simp; done) | (go_simp; with_reducible rfl)
          try simp only [Act.put, List.setIfInBounds_toArray, List.set_cons_zero, List.set_cons_succ]
          refine wpG_do (i := 6) (o := { dst := some 43, op := Op.call { callee := Callee.value (Operand.func 10), args := #[Operand.tmp 41, Operand.tmp 42], argTypes := #[22, 22] }, type := 22, pos := "law.go:111", after := #[{ on := 4, ground := Ground.data }, { on := 5, ground := Ground.data }, { on := 2, ground := Ground.chain }], guard := none }) (by kernel_rfl) rfl (by rfl) fun K hK => ?_
          go_simp
          refine (macR_all _ _ l m _ k3 m3 HX.out).mono ?_
          rintro e w4 ⟨v4, rfl, hN4⟩
          refine hK.out _ _ hN4.2 ?_
          clear hK K
          have x4 := hN4.rd
          try simp only [Act.put, List.setIfInBounds_toArray, List.set_cons_zero, List.set_cons_succ]
          refine wpG_take (i := 7) (oi := { dst := some 44, op := Op.convert 22 9 (Operand.tmp 43), type := 9, pos := "law.go:111", after := #[{ on := 6, ground := Ground.data }], guard := none }) (v := ?_) rfl (by kernel_rfl) (by kernel_rfl) (by kernel_rfl) (by rfl) ?_ ?_
          rotate_left
          · intro W hW; have hcv := conv_any (x4.kept hW); first | (go_simp; done) | (go_simp; with_reducible rfl)
          try simp only [Act.put, List.setIfInBounds_toArray, List.set_cons_zero, List.set_cons_succ]
          refine wpG_take (i := 8) (oi := { dst := some 45, op := Op.binOp BinOp.eql 9 (Operand.tmp 40) (Operand.tmp 44) 9, type := 4, pos := "law.go:111", after := #[{ on := 3, ground := Ground.data }, { on := 7, ground := Ground.data }], guard := none }) (v := ?_) rfl (by kernel_rfl) (by kernel_rfl) (by kernel_rfl) (by rfl) ?_ ?_
          rotate_left
          · intro W hW; first | (go_simp; done) | (go_simp; with_reducible rfl)
          try simp only [Act.put, List.setIfInBounds_toArray, List.set_cons_zero, List.set_cons_succ]
          refine wpG_take (i := 9) (oi := { dst := some 6, op := Op.assign (Operand.tmp 45), type := 4, pos := "law.go:111", after := #[{ on := 8, ground := Ground.data }, { on := 6, ground := Ground.chain }, { on := 0, ground := Ground.phase }, { on := 1, ground := Ground.phase }, { on := 2, ground := Ground.phase }, { on := 3, ground := Ground.phase }, { on := 4, ground := Ground.phase }, { on := 5, ground := Ground.phase }, { on := 6, ground := Ground.phase }, { on := 7, ground := Ground.phase }, { on := 8, ground := Ground.phase }], guard := none }) (v := ?_) rfl (by kernel_rfl) (by kernel_rfl) (by kernel_rfl) (by rfl) ?_ ?_
          rotate_left
          · intro W hW; first | (go_simp; done) | (go_simp; with_reducible rfl)
          try simp only [Act.put, List.setIfInBounds_toArray, List.set_cons_zero, List.set_cons_succ]
          refine wpG_done (by kernel_rfl) ?_
          have HB4 : Hid _ := stepB (stepB (Below.drew HB3.out) hN3.2) hN4.2
          clear k3 m3 x3 x4 hN3 hN4
          go_wp2
          go_ret
          exact ⟨rfl, HB4.out⟩
end Go.Proofs.YtcelhlpopdcaaaaDoor
