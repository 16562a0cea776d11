/- That the program is awake: codes of nothing, and of a byte. -/
import Derived.Test.YtcelhlpopdcaaaaDoorP08e
import Derived.Test.YtcelhlpopdcaaaaDoorPMath5
import Derived.OpenShut
namespace Go.Proofs.YtcelhlpopdcaaaaDoor
open Go.ChangeShapes Go.WideShapes Go.ChangeAt Go.RowKit
set_option linter.unusedSimpArgs false
set_option linter.unusedVariables false

/-- The bytes 0 to 31. -/
def upL : List UInt8 := (List.range 32).map UInt8.ofNat
theorem upL_length : upL.length = 32 := by simp [upL]
theorem upL_get (i : Nat) (h : i < 32) : ((upL.getD i 0).toNat : Int) = (i : Int) := by
  unfold upL
  rw [List.getD_eq_getElem?_getD, List.getElem?_map, List.getElem?_range h]
  simp only [Option.map_some, Option.getD_some, UInt8.toNat_ofNat']
  omega
def oneL : List UInt8 := (List.replicate 32 (0 : UInt8)).set 0 1
theorem oneL_length : oneL.length = 32 := by simp [oneL]
theorem up_3 : (clP upL).getD 3 0 = 3 := by decide +kernel
theorem up_4 : (clP upL).getD 4 0 = 4 := by decide +kernel
theorem one_0 : (mcP oneL [7]).getD 0 0 = 7 := by decide +kernel
theorem one_1 : (mcP oneL [7]).getD 1 0 = 1 := by decide +kernel

set_option maxRecDepth 100000 in
set_option maxHeartbeats 4000000 in
theorem awake_any (w : World) (ht : KpT w) : Calls Tryd.prog 8 #[] w fun e w' => e = .returned (.bool true) ∧ Below w.heap.size w w' := by
  obtain ⟨ti, hti, hz0, hz1, hz2⟩ := info_parts info5
  have HT : Hid (KpT w) := ht
  clear ht
  go_enter Tryd.func8, Tryd.ntmps8
  go_wp2_with (at_make; go_must (refine wpList_make_full _ rfl _ _ 22 rfl w.heap.size 5 ti _ 1 Tryd.underlying22 hti hz0 hz1 _ _ _ _ 32 rfl rfl rfl rfl (by rw [hz2]; omega) (by unfold maxLen; omega) (Nat.le_refl _) ?_))
  intro w1 hown hgr
  have hN1 := New.made hown hgr
  rw [← mxB_zero upL (List.replicate 32 0)] at hN1
  have hlR : (List.replicate 32 (0 : UInt8)).length = 32 := by simp
  have HlR : Hid _ := hlR
  generalize List.replicate 32 (0 : UInt8) = Z at hN1 HlR
  clear hown hgr hlR
  go_wp2
  go_loopw [2] (fun iv wx => ∃ i : Nat, i ≤ 32 ∧ iv = .int .i64 (i : Int) ∧ New 5 w (.slice (some ⟨w.heap.size, 0, none⟩) 32 32) (mxB upL Z i) wx) (fun iv _ => 32 - (intOf iv).toNat)
  case atStart => exact ⟨0, by omega, rfl, hN1⟩
  case round =>
    obtain ⟨i, hi, rfl, hN⟩ := hrel
    clear hN1
    by_cases hlt : i < 32
    · have hd : decide ((i : Int) < 32) = true := decide_eq_true (by omega)
      have hiI : (i : Int) < 32 := by omega
      obtain ⟨g', c', ev, -, hcell, hfree, hset⟩ := hN.store (j := i) (by rw [mxB_len upL_length HlR.out i hi]; exact hlt)
      simp only [Value.slice.injEq, Option.some.injEq, Addr.mk.injEq, and_true, true_and] at ev
      obtain ⟨rfl, -, rfl⟩ := ev
      have hNn := hset (upL.getD i 0)
      rw [mxB_set upL_length HlR.out i hlt, upL_get i hlt] at hNn
      have e1 : IntKind.u8.wrap (i : Int) = (i : Int) := by rw [IntKind.wrap_u8]; omega
      have e2 : (i : Int) % 256 = (i : Int) := by omega
      clear hset hN
      go_wp2
      go_roundw
      case rel => exact ⟨i + 1, by omega, by go_num, hNn⟩
      case measure => simp [intOf] <;> omega
    · have hie : i = 32 := by omega
      have hd : decide ((i : Int) < 32) = false := decide_eq_false (by omega)
      have hiI : (32 : Int) ≤ (i : Int) := by omega
      rw [hie, mxB_full upL_length HlR.out] at hN
      have hK : Rd wr (.slice (some ⟨w.heap.size, 0, none⟩) 32 32) upL := hN.rd
      have hb := hN.2
      clear hie hN
      have HK : Hid (Rd wr (.slice (some ⟨w.heap.size, 0, none⟩) 32 32) upL) := hK
      clear hK
      go_wp2_with fail
      refine (pmac_any _ _ upL [] _ (HT.out.kept hb) HK.out (Rd.nil _) upL_length).mono ?_
      rintro e w2 ⟨va, rfl, hNa⟩
      rw [mcP_nil upL upL_length] at hNa
      have hA : Rd w2 va (upL.drop 16) := hNa.rd
      have HK2 : Hid (Rd w2 (.slice (some ⟨w.heap.size, 0, none⟩) 32 32) upL) := HK.out.kept hNa.2
      replace hb := stepB hb hNa.2
      clear hNa HK
      go_wp2_with fail
      refine (pclamp_any _ upL _ (HT.out.kept hb) HK2.out upL_length).mono ?_
      rintro e w3 ⟨vc, rfl, hNc⟩
      have hC : Rd w3 vc (clP upL) := hNc.rd
      replace hA := hA.kept hNc.2
      have HK3 : Hid (Rd w3 (.slice (some ⟨w.heap.size, 0, none⟩) 32 32) upL) := HK2.out.kept hNc.2
      replace hb := stepB hb hNc.2
      clear hNc HK2
      go_wp2_with (at_make; go_must (refine wpList_make_full _ rfl _ _ 22 rfl w3.heap.size 5 ti _ 1 Tryd.underlying22 hti hz0 hz1 _ _ _ _ 32 rfl rfl rfl rfl (by rw [hz2]; omega) (by unfold maxLen; omega) (Nat.le_refl _) ?_))
      intro w4 hown hgr
      have hN4 := New.made hown hgr
      obtain ⟨g', c', ev, -, hcell, hfree, hset⟩ := hN4.store (j := 0) (by simp)
      simp only [Value.slice.injEq, Option.some.injEq, Addr.mk.injEq, and_true, true_and] at ev
      obtain ⟨rfl, -, rfl⟩ := ev
      have hN5 : New 5 w3 (.slice (some ⟨w3.heap.size, 0, none⟩) 32 32) oneL (w4.setCell ⟨w3.heap.size, 0, none⟩ (.int .u8 1)) := hset 1
      have g5 := growB (w := w4.setCell ⟨w3.heap.size, 0, none⟩ (.int .u8 1)) (.cells #[.int .u8 7] 5)
      have r5 : Rd ((w4.setCell ⟨w3.heap.size, 0, none⟩ (.int .u8 1)).alloc (.cells #[.int .u8 7] 5)) (.slice (some ⟨w4.heap.size, 0, none⟩) 1 1) [7] := Rd.litc [7] rfl rfl (by simp) (by simp [maxLen])
      have b5 := stepB hN5.2 g5
      have ho5 : Rd _ (.slice (some ⟨w3.heap.size, 0, none⟩) 32 32) oneL := hN5.rd.kept g5
      generalize hw5 : (w4.setCell ⟨w3.heap.size, 0, none⟩ (.int .u8 1)).alloc (.cells #[.int .u8 7] 5) = w5 at g5 r5 b5 ho5
      have HW5 : Hid _ := hw5
      have HA5 : Hid (Rd w5 va (upL.drop 16)) := hA.kept b5
      have HC5 : Hid (Rd w5 vc (clP upL)) := hC.kept b5
      have HK5 : Hid (Rd w5 (.slice (some ⟨w.heap.size, 0, none⟩) 32 32) upL) := HK3.out.kept b5
      have HO5 : Hid (Rd w5 (.slice (some ⟨w3.heap.size, 0, none⟩) 32 32) oneL) := ho5
      have HR5 : Hid (Rd w5 (.slice (some ⟨w4.heap.size, 0, none⟩) 1 1) [7]) := r5
      have HB5 : Hid _ := stepB hb b5
      clear hN4 hset hown hgr hN5 g5 r5 b5 ho5 hw5 hA hC HK3 hb
      go_wp2_with fail
      rw [HW5.out]
      refine (pmac_any _ _ oneL [7] _ (HT.out.kept HB5.out) HO5.out HR5.out oneL_length).mono ?_
      rintro e w6 ⟨vm, rfl, hNm⟩
      have hM : Rd w6 vm (mcP oneL [7]) := hNm.rd
      have hA6 := HA5.out.kept hNm.2
      have hC6 := HC5.out.kept hNm.2
      have hK6 := HK5.out.kept hNm.2
      have HB6 : Hid _ := stepB HB5.out hNm.2
      clear hNm HA5 HC5 HK5 HO5 HR5 HB5 HW5
      have hs6 := hK6.sub 16 32 (by omega) (by omega)
      have hup16 : (upL.drop 16).take (32 - 16) = upL.drop 16 := by rw [List.take_of_length_le (by rw [List.length_drop, upL_length]; decide)]
      rw [hup16, Nat.zero_add] at hs6
      have hs7 : Rd w6 (.slice (some ⟨w.heap.size, 16, none⟩) 16 16) (upL.drop 16) := hs6
      have lc : (clP upL).length = 16 := clP_length _
      have lm : (mcP oneL [7]).length = 16 := mcP_length _ _
      obtain ⟨bc, oc, cc, ev, hcap, hmx, hcc⟩ := hC6.cells (by omega)
      subst ev
      obtain ⟨bm, om, cm, ev, hcapm, hmxm, hcm⟩ := hM.cells (by omega)
      subst ev
      have c3 := hcc 3 (by omega)
      have c4 := hcc 4 (by omega)
      have m0 := hcm 0 (by omega)
      have m1 := hcm 1 (by omega)
      rw [up_3, show (((3 : UInt8).toNat : Nat) : Int) = 3 from rfl] at c3
      rw [up_4, show (((4 : UInt8).toNat : Nat) : Int) = 4 from rfl] at c4
      rw [one_0, Nat.add_zero, show (((7 : UInt8).toNat : Nat) : Int) = 7 from rfl] at m0
      rw [one_1, show (((1 : UInt8).toNat : Nat) : Int) = 1 from rfl] at m1
      rw [lc, lm]
      have HS7 : Hid (Rd w6 (.slice (some ⟨w.heap.size, 16, none⟩) 16 16) (upL.drop 16)) := hs7
      have HA6 : Hid (Rd w6 va (upL.drop 16)) := hA6
      clear hs6 hs7 hup16 lc lm hC6 hM hK6 hA6 hcc hcm hcap hcapm hmx hmxm
      generalize upL.drop 16 = U at HS7 HA6
      go_wp2_with fail
      refine wpG_begin (by kernel_rfl) ?_
      refine wpG_take (i := 0) (oi := { dst := some 27, op := Op.move (Operand.tmp 3), type := 22, pos := "law.go:20", after := #[], guard := none }) (v := ?_) rfl (by kernel_rfl) (by kernel_rfl) (by kernel_rfl) (by rfl) ?_ ?_
      rotate_left
      · intro W hW; first | (go_simp; done) | (go_simp; with_reducible rfl)
      try simp only [Act.put, List.setIfInBounds_toArray, List.set_cons_zero, List.set_cons_succ]
      refine wpG_take (i := 1) (oi := { dst := some 28, op := Op.convert 22 9 (Operand.tmp 27), type := 9, pos := "law.go:20", after := #[{ on := 0, ground := Ground.data }], guard := none }) (v := ?_) rfl (by kernel_rfl) (by kernel_rfl) (by kernel_rfl) (by rfl) ?_ ?_
      rotate_left
      · intro W hW; have hcv := conv_any (HA6.out.drew.kept hW); first | (go_simp; done) | (go_simp; with_reducible rfl)
      try simp only [Act.put, List.setIfInBounds_toArray, List.set_cons_zero, List.set_cons_succ]
      refine wpG_take (i := 2) (oi := { dst := some 29, op := Op.move (Operand.tmp 1), type := 22, pos := "law.go:20", after := #[], guard := none }) (v := ?_) rfl (by kernel_rfl) (by kernel_rfl) (by kernel_rfl) (by rfl) ?_ ?_
      rotate_left
      · intro W hW; first | (go_simp; done) | (go_simp; with_reducible rfl)
      try simp only [Act.put, List.setIfInBounds_toArray, List.set_cons_zero, List.set_cons_succ]
      refine wpG_take (i := 3) (oi := { dst := some 30, op := Op.slice 22 (Operand.tmp 29) (some (Operand.const (Value.int IntKind.i64 16))) none none, type := 22, pos := "law.go:20", after := #[{ on := 2, ground := Ground.data }], guard := none }) (v := ?_) rfl (by kernel_rfl) (by kernel_rfl) (by kernel_rfl) (by rfl) ?_ ?_
      rotate_left
      · intro W hW; first | (go_simp; done) | (go_simp; with_reducible rfl)
      try simp only [Act.put, List.setIfInBounds_toArray, List.set_cons_zero, List.set_cons_succ]
      refine wpG_take (i := 4) (oi := { dst := some 31, op := Op.convert 22 9 (Operand.tmp 30), type := 9, pos := "law.go:20", after := #[{ on := 3, ground := Ground.data }], guard := none }) (v := ?_) rfl (by kernel_rfl) (by kernel_rfl) (by kernel_rfl) (by rfl) ?_ ?_
      rotate_left
      · intro W hW; have hcv := conv_any (HS7.out.drew.kept hW); first | (go_simp; done) | (go_simp; with_reducible rfl)
      try simp only [Act.put, List.setIfInBounds_toArray, List.set_cons_zero, List.set_cons_succ]
      refine wpG_take (i := 5) (oi := { dst := some 32, op := Op.binOp BinOp.eql 9 (Operand.tmp 28) (Operand.tmp 31) 9, type := 4, pos := "law.go:20", after := #[{ on := 1, ground := Ground.data }, { on := 4, ground := Ground.data }], guard := none }) (v := ?_) rfl (by kernel_rfl) (by kernel_rfl) (by kernel_rfl) (by rfl) ?_ ?_
      rotate_left
      · intro W hW; first | (go_simp; done) | (go_simp; with_reducible rfl)
      try simp only [Act.put, List.setIfInBounds_toArray, List.set_cons_zero, List.set_cons_succ]
      refine wpG_take (i := 6) (oi := { dst := some 33, op := Op.move (Operand.tmp 32), type := 4, pos := "law.go:20", after := #[{ on := 5, ground := Ground.data }], guard := none }) (v := ?_) rfl (by kernel_rfl) (by kernel_rfl) (by kernel_rfl) (by rfl) ?_ ?_
      rotate_left
      · intro W hW; first | (go_simp; done) | (go_simp; with_reducible rfl)
      try simp only [Act.put, List.setIfInBounds_toArray, List.set_cons_zero, List.set_cons_succ]
      refine wpG_take (i := 7) (oi := { dst := some 34, op := Op.move (Operand.tmp 4), type := 22, pos := "law.go:20", after := #[{ on := 6, ground := Ground.guard }], guard := some (6, true) }) (v := ?_) rfl (by kernel_rfl) (by kernel_rfl) (by kernel_rfl) (by rfl) ?_ ?_
      rotate_left
      · intro W hW; first | (go_simp; done) | (go_simp; with_reducible rfl)
      try simp only [Act.put, List.setIfInBounds_toArray, List.set_cons_zero, List.set_cons_succ]
      refine wpG_take (i := 8) (oi := { dst := some 35, op := Op.call { callee := Callee.builtin Builtin.len, args := #[Operand.tmp 34], argTypes := #[22] }, type := 3, pos := "law.go:20", after := #[{ on := 7, ground := Ground.data }, { on := 6, ground := Ground.guard }], guard := some (6, true) }) (v := ?_) rfl (by kernel_rfl) (by kernel_rfl) (by kernel_rfl) (by rfl) ?_ ?_
      rotate_left
      · intro W hW; first | (go_simp; done) | (go_simp; with_reducible rfl)
      try simp only [Act.put, List.setIfInBounds_toArray, List.set_cons_zero, List.set_cons_succ]
      refine wpG_take (i := 9) (oi := { dst := some 36, op := Op.binOp BinOp.eql 3 (Operand.tmp 35) (Operand.const (Value.int IntKind.i64 16)) 3, type := 4, pos := "law.go:20", after := #[{ on := 8, ground := Ground.data }, { on := 6, ground := Ground.guard }], guard := some (6, true) }) (v := ?_) rfl (by kernel_rfl) (by kernel_rfl) (by kernel_rfl) (by rfl) ?_ ?_
      rotate_left
      · intro W hW; first | (go_simp; done) | (go_simp; with_reducible rfl)
      try simp only [Act.put, List.setIfInBounds_toArray, List.set_cons_zero, List.set_cons_succ]
      refine wpG_take (i := 10) (oi := { dst := some 37, op := Op.pick (Operand.tmp 33) (Operand.tmp 36) (Operand.const (Value.bool false)), type := 4, pos := "law.go:20", after := #[{ on := 6, ground := Ground.data }, { on := 9, ground := Ground.data }], guard := none }) (v := ?_) rfl (by kernel_rfl) (by kernel_rfl) (by kernel_rfl) (by rfl) ?_ ?_
      rotate_left
      · intro W hW; first | (go_simp; done) | (go_simp; with_reducible rfl)
      try simp only [Act.put, List.setIfInBounds_toArray, List.set_cons_zero, List.set_cons_succ]
      refine wpG_take (i := 11) (oi := { dst := some 38, op := Op.move (Operand.tmp 37), type := 4, pos := "law.go:20", after := #[{ on := 10, ground := Ground.data }, { on := 6, ground := Ground.chain }], guard := none }) (v := ?_) rfl (by kernel_rfl) (by kernel_rfl) (by kernel_rfl) (by rfl) ?_ ?_
      rotate_left
      · intro W hW; first | (go_simp; done) | (go_simp; with_reducible rfl)
      try simp only [Act.put, List.setIfInBounds_toArray, List.set_cons_zero, List.set_cons_succ]
      refine wpG_take (i := 12) (oi := { dst := some 39, op := Op.move (Operand.tmp 4), type := 22, pos := "law.go:20", after := #[{ on := 11, ground := Ground.guard }], guard := some (11, true) }) (v := ?_) rfl (by kernel_rfl) (by kernel_rfl) (by kernel_rfl) (by rfl) ?_ ?_
      rotate_left
      · intro W hW; first | (go_simp; done) | (go_simp; with_reducible rfl)
      try simp only [Act.put, List.setIfInBounds_toArray, List.set_cons_zero, List.set_cons_succ]
      refine wpG_take (i := 13) (oi := { dst := some 40, op := Op.indexAddr 22 (Operand.tmp 39) (Operand.const (Value.int IntKind.i64 3)), type := 0, pos := "law.go:20", after := #[{ on := 12, ground := Ground.data }, { on := 11, ground := Ground.guard }], guard := some (11, true) }) (v := ?_) rfl (by kernel_rfl) (by kernel_rfl) (by kernel_rfl) (by rfl) ?_ ?_
      rotate_left
      · intro W hW; first | (go_simp; done) | (go_simp; with_reducible rfl)
      try simp only [Act.put, List.setIfInBounds_toArray, List.set_cons_zero, List.set_cons_succ]
      refine wpG_take (i := 14) (oi := { dst := some 41, op := Op.load 5 (Operand.tmp 40), type := 5, pos := "law.go:20", after := #[{ on := 13, ground := Ground.data }, { on := 11, ground := Ground.guard }], guard := some (11, true) }) (v := ?_) rfl (by kernel_rfl) (by kernel_rfl) (by kernel_rfl) (by rfl) ?_ ?_
      rotate_left
      · intro W hW; have hcW := cellU c3 hW; first | (go_simp; done) | (go_simp; with_reducible rfl)
      try simp only [Act.put, List.setIfInBounds_toArray, List.set_cons_zero, List.set_cons_succ]
      refine wpG_take (i := 15) (oi := { dst := some 42, op := Op.binOp BinOp.eql 5 (Operand.tmp 41) (Operand.const (Value.int IntKind.u8 3)) 5, type := 4, pos := "law.go:20", after := #[{ on := 14, ground := Ground.data }, { on := 11, ground := Ground.guard }], guard := some (11, true) }) (v := ?_) rfl (by kernel_rfl) (by kernel_rfl) (by kernel_rfl) (by rfl) ?_ ?_
      rotate_left
      · intro W hW; first | (go_simp; done) | (go_simp; with_reducible rfl)
      try simp only [Act.put, List.setIfInBounds_toArray, List.set_cons_zero, List.set_cons_succ]
      refine wpG_take (i := 16) (oi := { dst := some 43, op := Op.pick (Operand.tmp 38) (Operand.tmp 42) (Operand.const (Value.bool false)), type := 4, pos := "law.go:20", after := #[{ on := 11, ground := Ground.data }, { on := 15, ground := Ground.data }], guard := none }) (v := ?_) rfl (by kernel_rfl) (by kernel_rfl) (by kernel_rfl) (by rfl) ?_ ?_
      rotate_left
      · intro W hW; first | (go_simp; done) | (go_simp; with_reducible rfl)
      try simp only [Act.put, List.setIfInBounds_toArray, List.set_cons_zero, List.set_cons_succ]
      refine wpG_take (i := 17) (oi := { dst := some 44, op := Op.move (Operand.tmp 43), type := 4, pos := "law.go:20", after := #[{ on := 16, ground := Ground.data }, { on := 11, ground := Ground.chain }], guard := none }) (v := ?_) rfl (by kernel_rfl) (by kernel_rfl) (by kernel_rfl) (by rfl) ?_ ?_
      rotate_left
      · intro W hW; first | (go_simp; done) | (go_simp; with_reducible rfl)
      try simp only [Act.put, List.setIfInBounds_toArray, List.set_cons_zero, List.set_cons_succ]
      refine wpG_take (i := 18) (oi := { dst := some 45, op := Op.move (Operand.tmp 4), type := 22, pos := "law.go:20", after := #[{ on := 17, ground := Ground.guard }], guard := some (17, true) }) (v := ?_) rfl (by kernel_rfl) (by kernel_rfl) (by kernel_rfl) (by rfl) ?_ ?_
      rotate_left
      · intro W hW; first | (go_simp; done) | (go_simp; with_reducible rfl)
      try simp only [Act.put, List.setIfInBounds_toArray, List.set_cons_zero, List.set_cons_succ]
      refine wpG_take (i := 19) (oi := { dst := some 46, op := Op.indexAddr 22 (Operand.tmp 45) (Operand.const (Value.int IntKind.i64 4)), type := 0, pos := "law.go:20", after := #[{ on := 18, ground := Ground.data }, { on := 17, ground := Ground.guard }], guard := some (17, true) }) (v := ?_) rfl (by kernel_rfl) (by kernel_rfl) (by kernel_rfl) (by rfl) ?_ ?_
      rotate_left
      · intro W hW; first | (go_simp; done) | (go_simp; with_reducible rfl)
      try simp only [Act.put, List.setIfInBounds_toArray, List.set_cons_zero, List.set_cons_succ]
      refine wpG_take (i := 20) (oi := { dst := some 47, op := Op.load 5 (Operand.tmp 46), type := 5, pos := "law.go:20", after := #[{ on := 19, ground := Ground.data }, { on := 17, ground := Ground.guard }], guard := some (17, true) }) (v := ?_) rfl (by kernel_rfl) (by kernel_rfl) (by kernel_rfl) (by rfl) ?_ ?_
      rotate_left
      · intro W hW; have hcW := cellU c4 hW; first | (go_simp; done) | (go_simp; with_reducible rfl)
      try simp only [Act.put, List.setIfInBounds_toArray, List.set_cons_zero, List.set_cons_succ]
      refine wpG_take (i := 21) (oi := { dst := some 48, op := Op.binOp BinOp.eql 5 (Operand.tmp 47) (Operand.const (Value.int IntKind.u8 4)) 5, type := 4, pos := "law.go:20", after := #[{ on := 20, ground := Ground.data }, { on := 17, ground := Ground.guard }], guard := some (17, true) }) (v := ?_) rfl (by kernel_rfl) (by kernel_rfl) (by kernel_rfl) (by rfl) ?_ ?_
      rotate_left
      · intro W hW; first | (go_simp; done) | (go_simp; with_reducible rfl)
      try simp only [Act.put, List.setIfInBounds_toArray, List.set_cons_zero, List.set_cons_succ]
      refine wpG_take (i := 22) (oi := { dst := some 49, op := Op.pick (Operand.tmp 44) (Operand.tmp 48) (Operand.const (Value.bool false)), type := 4, pos := "law.go:20", after := #[{ on := 17, ground := Ground.data }, { on := 21, ground := Ground.data }], guard := none }) (v := ?_) rfl (by kernel_rfl) (by kernel_rfl) (by kernel_rfl) (by rfl) ?_ ?_
      rotate_left
      · intro W hW; first | (go_simp; done) | (go_simp; with_reducible rfl)
      try simp only [Act.put, List.setIfInBounds_toArray, List.set_cons_zero, List.set_cons_succ]
      refine wpG_take (i := 23) (oi := { dst := some 50, op := Op.move (Operand.tmp 49), type := 4, pos := "law.go:20", after := #[{ on := 22, ground := Ground.data }, { on := 17, ground := Ground.chain }], guard := none }) (v := ?_) rfl (by kernel_rfl) (by kernel_rfl) (by kernel_rfl) (by rfl) ?_ ?_
      rotate_left
      · intro W hW; first | (go_simp; done) | (go_simp; with_reducible rfl)
      try simp only [Act.put, List.setIfInBounds_toArray, List.set_cons_zero, List.set_cons_succ]
      refine wpG_take (i := 24) (oi := { dst := some 51, op := Op.move (Operand.tmp 6), type := 22, pos := "law.go:20", after := #[{ on := 23, ground := Ground.guard }], guard := some (23, true) }) (v := ?_) rfl (by kernel_rfl) (by kernel_rfl) (by kernel_rfl) (by rfl) ?_ ?_
      rotate_left
      · intro W hW; first | (go_simp; done) | (go_simp; with_reducible rfl)
      try simp only [Act.put, List.setIfInBounds_toArray, List.set_cons_zero, List.set_cons_succ]
      refine wpG_take (i := 25) (oi := { dst := some 52, op := Op.call { callee := Callee.builtin Builtin.len, args := #[Operand.tmp 51], argTypes := #[22] }, type := 3, pos := "law.go:20", after := #[{ on := 24, ground := Ground.data }, { on := 23, ground := Ground.guard }], guard := some (23, true) }) (v := ?_) rfl (by kernel_rfl) (by kernel_rfl) (by kernel_rfl) (by rfl) ?_ ?_
      rotate_left
      · intro W hW; first | (go_simp; done) | (go_simp; with_reducible rfl)
      try simp only [Act.put, List.setIfInBounds_toArray, List.set_cons_zero, List.set_cons_succ]
      refine wpG_take (i := 26) (oi := { dst := some 53, op := Op.binOp BinOp.eql 3 (Operand.tmp 52) (Operand.const (Value.int IntKind.i64 16)) 3, type := 4, pos := "law.go:20", after := #[{ on := 25, ground := Ground.data }, { on := 23, ground := Ground.guard }], guard := some (23, true) }) (v := ?_) rfl (by kernel_rfl) (by kernel_rfl) (by kernel_rfl) (by rfl) ?_ ?_
      rotate_left
      · intro W hW; first | (go_simp; done) | (go_simp; with_reducible rfl)
      try simp only [Act.put, List.setIfInBounds_toArray, List.set_cons_zero, List.set_cons_succ]
      refine wpG_take (i := 27) (oi := { dst := some 54, op := Op.pick (Operand.tmp 50) (Operand.tmp 53) (Operand.const (Value.bool false)), type := 4, pos := "law.go:20", after := #[{ on := 23, ground := Ground.data }, { on := 26, ground := Ground.data }], guard := none }) (v := ?_) rfl (by kernel_rfl) (by kernel_rfl) (by kernel_rfl) (by rfl) ?_ ?_
      rotate_left
      · intro W hW; first | (go_simp; done) | (go_simp; with_reducible rfl)
      try simp only [Act.put, List.setIfInBounds_toArray, List.set_cons_zero, List.set_cons_succ]
      refine wpG_take (i := 28) (oi := { dst := some 55, op := Op.move (Operand.tmp 54), type := 4, pos := "law.go:20", after := #[{ on := 27, ground := Ground.data }, { on := 23, ground := Ground.chain }], guard := none }) (v := ?_) rfl (by kernel_rfl) (by kernel_rfl) (by kernel_rfl) (by rfl) ?_ ?_
      rotate_left
      · intro W hW; first | (go_simp; done) | (go_simp; with_reducible rfl)
      try simp only [Act.put, List.setIfInBounds_toArray, List.set_cons_zero, List.set_cons_succ]
      refine wpG_take (i := 29) (oi := { dst := some 56, op := Op.move (Operand.tmp 6), type := 22, pos := "law.go:20", after := #[{ on := 28, ground := Ground.guard }], guard := some (28, true) }) (v := ?_) rfl (by kernel_rfl) (by kernel_rfl) (by kernel_rfl) (by rfl) ?_ ?_
      rotate_left
      · intro W hW; first | (go_simp; done) | (go_simp; with_reducible rfl)
      try simp only [Act.put, List.setIfInBounds_toArray, List.set_cons_zero, List.set_cons_succ]
      refine wpG_take (i := 30) (oi := { dst := some 57, op := Op.indexAddr 22 (Operand.tmp 56) (Operand.const (Value.int IntKind.i64 0)), type := 0, pos := "law.go:20", after := #[{ on := 29, ground := Ground.data }, { on := 28, ground := Ground.guard }], guard := some (28, true) }) (v := ?_) rfl (by kernel_rfl) (by kernel_rfl) (by kernel_rfl) (by rfl) ?_ ?_
      rotate_left
      · intro W hW; first | (go_simp; done) | (go_simp; with_reducible rfl)
      try simp only [Act.put, List.setIfInBounds_toArray, List.set_cons_zero, List.set_cons_succ]
      refine wpG_take (i := 31) (oi := { dst := some 58, op := Op.load 5 (Operand.tmp 57), type := 5, pos := "law.go:20", after := #[{ on := 30, ground := Ground.data }, { on := 28, ground := Ground.guard }], guard := some (28, true) }) (v := ?_) rfl (by kernel_rfl) (by kernel_rfl) (by kernel_rfl) (by rfl) ?_ ?_
      rotate_left
      · intro W hW; have hcW := cellU m0 hW; first | (go_simp; done) | (go_simp; with_reducible rfl)
      try simp only [Act.put, List.setIfInBounds_toArray, List.set_cons_zero, List.set_cons_succ]
      refine wpG_take (i := 32) (oi := { dst := some 59, op := Op.binOp BinOp.eql 5 (Operand.tmp 58) (Operand.const (Value.int IntKind.u8 7)) 5, type := 4, pos := "law.go:20", after := #[{ on := 31, ground := Ground.data }, { on := 28, ground := Ground.guard }], guard := some (28, true) }) (v := ?_) rfl (by kernel_rfl) (by kernel_rfl) (by kernel_rfl) (by rfl) ?_ ?_
      rotate_left
      · intro W hW; first | (go_simp; done) | (go_simp; with_reducible rfl)
      try simp only [Act.put, List.setIfInBounds_toArray, List.set_cons_zero, List.set_cons_succ]
      refine wpG_take (i := 33) (oi := { dst := some 60, op := Op.pick (Operand.tmp 55) (Operand.tmp 59) (Operand.const (Value.bool false)), type := 4, pos := "law.go:20", after := #[{ on := 28, ground := Ground.data }, { on := 32, ground := Ground.data }], guard := none }) (v := ?_) rfl (by kernel_rfl) (by kernel_rfl) (by kernel_rfl) (by rfl) ?_ ?_
      rotate_left
      · intro W hW; first | (go_simp; done) | (go_simp; with_reducible rfl)
      try simp only [Act.put, List.setIfInBounds_toArray, List.set_cons_zero, List.set_cons_succ]
      refine wpG_take (i := 34) (oi := { dst := some 61, op := Op.move (Operand.tmp 60), type := 4, pos := "law.go:20", after := #[{ on := 33, ground := Ground.data }, { on := 28, ground := Ground.chain }], guard := none }) (v := ?_) rfl (by kernel_rfl) (by kernel_rfl) (by kernel_rfl) (by rfl) ?_ ?_
      rotate_left
      · intro W hW; first | (go_simp; done) | (go_simp; with_reducible rfl)
      try simp only [Act.put, List.setIfInBounds_toArray, List.set_cons_zero, List.set_cons_succ]
      refine wpG_take (i := 35) (oi := { dst := some 62, op := Op.move (Operand.tmp 6), type := 22, pos := "law.go:20", after := #[{ on := 34, ground := Ground.guard }], guard := some (34, true) }) (v := ?_) rfl (by kernel_rfl) (by kernel_rfl) (by kernel_rfl) (by rfl) ?_ ?_
      rotate_left
      · intro W hW; first | (go_simp; done) | (go_simp; with_reducible rfl)
      try simp only [Act.put, List.setIfInBounds_toArray, List.set_cons_zero, List.set_cons_succ]
      refine wpG_take (i := 36) (oi := { dst := some 63, op := Op.indexAddr 22 (Operand.tmp 62) (Operand.const (Value.int IntKind.i64 1)), type := 0, pos := "law.go:20", after := #[{ on := 35, ground := Ground.data }, { on := 34, ground := Ground.guard }], guard := some (34, true) }) (v := ?_) rfl (by kernel_rfl) (by kernel_rfl) (by kernel_rfl) (by rfl) ?_ ?_
      rotate_left
      · intro W hW; first | (go_simp; done) | (go_simp; with_reducible rfl)
      try simp only [Act.put, List.setIfInBounds_toArray, List.set_cons_zero, List.set_cons_succ]
      refine wpG_take (i := 37) (oi := { dst := some 64, op := Op.load 5 (Operand.tmp 63), type := 5, pos := "law.go:20", after := #[{ on := 36, ground := Ground.data }, { on := 34, ground := Ground.guard }], guard := some (34, true) }) (v := ?_) rfl (by kernel_rfl) (by kernel_rfl) (by kernel_rfl) (by rfl) ?_ ?_
      rotate_left
      · intro W hW; have hcW := cellU m1 hW; first | (go_simp; done) | (go_simp; with_reducible rfl)
      try simp only [Act.put, List.setIfInBounds_toArray, List.set_cons_zero, List.set_cons_succ]
      refine wpG_take (i := 38) (oi := { dst := some 65, op := Op.binOp BinOp.eql 5 (Operand.tmp 64) (Operand.const (Value.int IntKind.u8 1)) 5, type := 4, pos := "law.go:20", after := #[{ on := 37, ground := Ground.data }, { on := 34, ground := Ground.guard }], guard := some (34, true) }) (v := ?_) rfl (by kernel_rfl) (by kernel_rfl) (by kernel_rfl) (by rfl) ?_ ?_
      rotate_left
      · intro W hW; first | (go_simp; done) | (go_simp; with_reducible rfl)
      try simp only [Act.put, List.setIfInBounds_toArray, List.set_cons_zero, List.set_cons_succ]
      refine wpG_take (i := 39) (oi := { dst := some 66, op := Op.pick (Operand.tmp 61) (Operand.tmp 65) (Operand.const (Value.bool false)), type := 4, pos := "law.go:20", after := #[{ on := 34, ground := Ground.data }, { on := 38, ground := Ground.data }], guard := none }) (v := ?_) rfl (by kernel_rfl) (by kernel_rfl) (by kernel_rfl) (by rfl) ?_ ?_
      rotate_left
      · intro W hW; first | (go_simp; done) | (go_simp; with_reducible rfl)
      try simp only [Act.put, List.setIfInBounds_toArray, List.set_cons_zero, List.set_cons_succ]
      refine wpG_take (i := 40) (oi := { dst := some 0, op := Op.assign (Operand.tmp 66), type := 4, pos := "law.go:20", after := #[{ on := 39, ground := Ground.data }, { on := 34, ground := Ground.chain }, { on := 0, ground := Ground.phase }, { on := 1, ground := Ground.phase }, { on := 2, ground := Ground.phase }, { on := 3, ground := Ground.phase }, { on := 4, ground := Ground.phase }, { on := 5, ground := Ground.phase }, { on := 6, ground := Ground.phase }, { on := 7, ground := Ground.phase }, { on := 8, ground := Ground.phase }, { on := 9, ground := Ground.phase }, { on := 10, ground := Ground.phase }, { on := 11, ground := Ground.phase }, { on := 12, ground := Ground.phase }, { on := 13, ground := Ground.phase }, { on := 14, ground := Ground.phase }, { on := 15, ground := Ground.phase }, { on := 16, ground := Ground.phase }, { on := 17, ground := Ground.phase }, { on := 18, ground := Ground.phase }, { on := 19, ground := Ground.phase }, { on := 20, ground := Ground.phase }, { on := 21, ground := Ground.phase }, { on := 22, ground := Ground.phase }, { on := 23, ground := Ground.phase }, { on := 24, ground := Ground.phase }, { on := 25, ground := Ground.phase }, { on := 26, ground := Ground.phase }, { on := 27, ground := Ground.phase }, { on := 28, ground := Ground.phase }, { on := 29, ground := Ground.phase }, { on := 30, ground := Ground.phase }, { on := 31, ground := Ground.phase }, { on := 32, ground := Ground.phase }, { on := 33, ground := Ground.phase }, { on := 34, ground := Ground.phase }, { on := 35, ground := Ground.phase }, { on := 36, ground := Ground.phase }, { on := 37, ground := Ground.phase }, { on := 38, ground := Ground.phase }, { on := 39, ground := Ground.phase }], guard := none }) (v := ?_) rfl (by kernel_rfl) (by kernel_rfl) (by kernel_rfl) (by rfl) ?_ ?_
      rotate_left
      · intro W hW; first | (go_simp; done) | (go_simp; with_reducible rfl)
      try simp only [Act.put, List.setIfInBounds_toArray, List.set_cons_zero, List.set_cons_succ]
      refine wpG_done (by kernel_rfl) ?_
      go_wp2
      go_ret
      exact ⟨rfl, HB6.out.drew⟩
end Go.Proofs.YtcelhlpopdcaaaaDoor
