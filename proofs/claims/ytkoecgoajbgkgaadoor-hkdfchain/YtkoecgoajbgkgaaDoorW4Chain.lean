/- What the law HkdfChain answers at every input: the walk. -/
import Derived.Test.YtkoecgoajbgkgaaDoorH04d
import Derived.Test.YtkoecgoajbgkgaaDoorBase
namespace Go.Proofs.YtkoecgoajbgkgaaDoor
open Go.ChangeShapes Go.WideShapes Go.ChangeAt Go.RowKit
set_option linter.unusedSimpArgs false
set_option linter.unusedVariables false

set_option maxRecDepth 100000 in
set_option maxHeartbeats 4000000 in
theorem chain_walk (vk vb : Value) (k b : List UInt8) (w : World) (hrk : Rd w vk k) (hrb : Rd w vb b) (ht : Tabs w) :
    Calls Tryd.prog 7 #[vk, vb] w fun e w' => e = .returned (.bool true) ∧ Below w.heap.size w w' := by
  obtain ⟨ak, ck, rfl, -, hmk, -, -⟩ := id hrk
  obtain ⟨ab, cb, rfl, -, hmb, -, -⟩ := id hrb
  unfold maxLen at hmk hmb
  by_cases hk : k.length ≤ 500
  · have d1 : decide ((500 : Int) < (k.length : Int)) = false := decide_eq_false (by omega)
    have g1 : (k.length : Int) ≤ 500 := by omega
    by_cases hb : b.length ≤ 500
    · have d2 : decide ((500 : Int) < (b.length : Int)) = false := decide_eq_false (by omega)
      have g2 : (b.length : Int) ≤ 500 := by omega
      have HL : Hid (b.length ≤ 500) := hb
      have HA : Hid ((k1F k b).length = 32) := mcF_length _ _
      have HC : Hid ((k2F k b).length = 32) := mcF_length _ _
      clear hk hb
      go_enter Tryd.func7, Tryd.ntmps7
      go_wp2_with fail
      refine (awake_any _ ht).mono ?_
      rintro e w1 ⟨rfl, hB1⟩
      have hrk1 := hrk.kept hB1
      have hrb1 := hrb.kept hB1
      have ht1 := ht.kept hB1
      clear hrk hrb ht
      go_wp2_with fail
      refine (mac_any _ _ k b (by have := HL.out; omega) _ hrk1 hrb1 ht1).mono ?_
      rintro e w2 ⟨vt, rfl, hN2⟩
      have hT2 := hN2.rd
      have hrk2 := hrk1.kept hN2.2
      have hrb2 := hrb1.kept hN2.2
      have ht2 := ht1.kept hN2.2
      have b2 := stepB hB1 hN2.2
      clear hrk1 hrb1 ht1 hB1 hN2
      go_wp2_with fail
      refine (three_any _ _ k b (by have := HL.out; omega) _ hrk2 hrb2 ht2).mono ?_
      rintro e w3 ⟨va, vc, vd, rfl, hA3, hC3, hD3, B3⟩
      have hT3 := hT2.kept B3
      have ht3 := ht2.kept B3
      have b3 := stepB b2 B3
      have hO3 : Own 5 w3 [(.slice none 0 0, []), (.slice none 0 0, [])] w3 := (Own.start 5 w3).nil.nil
      clear hrk2 hrb2 hT2 ht2 b2 B3
      obtain ⟨aa, ca, rfl, -, -, -, -⟩ := id hA3
      obtain ⟨ac, cc, rfl, -, -, -, -⟩ := id hC3
      obtain ⟨ad, cd, rfl, -, -, -, -⟩ := id hD3
      obtain ⟨at', ct, rfl, -, -, -, -⟩ := id hT3
      go_wp2_with (at_builtin; go_must (refine wpList_append_Own (w0 := w3) rfl _ _ 22 rfl Tryd.underlying22 infoU8 _ _ rfl hO3 _ _ rfl hA3 (by have := HA.out; simp; omega) ?_))
      intro vx w4 hO4
      have hO4' : Own 5 w3 [(.slice none 0 0, []), (vx, k1F k b)] w4 := hO4.perm (List.Perm.swap ..)
      have hC4 := hC3.kept hO4.below
      clear hO3 hO4
      go_wp2_with (at_builtin; go_must (refine wpList_append_Own (w0 := w3) rfl _ _ 22 rfl Tryd.underlying22 infoU8 _ _ rfl hO4' _ _ rfl hC4 (by have := HC.out; simp; omega) ?_))
      intro vy w5 hO5
      have hO5' : Own 5 w3 [(vx, k1F k b), (vy, k2F k b)] w5 := hO5.perm (List.Perm.swap ..)
      clear hO4' hO5 hC4
      have HB5 : Hid _ := b3
      clear b3
      go_wp2_with fail
      refine wpB_begin hO5'.below (by kernel_rfl) ?_
      refine wpB_take (hb := (Below.drew hO5'.below)) (i := 0) (oi := { dst := some 39, op := Op.move (Operand.tmp 7), type := 22, pos := "law.go:100", after := #[], guard := none }) (v := ?_) rfl (by kernel_rfl) (by kernel_rfl) (by kernel_rfl) (by rfl) ?_ ?_
      rotate_left
      · intro W hW; first | (go_simp; done) | (go_simp; with_reducible rfl)
      try simp only [Act.put, List.setIfInBounds_toArray, List.set_cons_zero, List.set_cons_succ]
      refine wpB_take (hb := (Below.drew hO5'.below)) (i := 1) (oi := { dst := some 40, op := Op.convert 22 9 (Operand.tmp 39), type := 9, pos := "law.go:100", after := #[{ on := 0, ground := Ground.data }], guard := none }) (v := ?_) rfl (by kernel_rfl) (by kernel_rfl) (by kernel_rfl) (by rfl) ?_ ?_
      rotate_left
      · intro W hW; have hcv := convS (hA3.kept hW); first | (go_simp; done) | (go_simp; with_reducible rfl)
      try simp only [Act.put, List.setIfInBounds_toArray, List.set_cons_zero, List.set_cons_succ]
      refine wpB_take (hb := (Below.drew hO5'.below)) (i := 2) (oi := { dst := some 41, op := Op.move (Operand.tmp 6), type := 22, pos := "law.go:100", after := #[], guard := none }) (v := ?_) rfl (by kernel_rfl) (by kernel_rfl) (by kernel_rfl) (by rfl) ?_ ?_
      rotate_left
      · intro W hW; first | (go_simp; done) | (go_simp; with_reducible rfl)
      try simp only [Act.put, List.setIfInBounds_toArray, List.set_cons_zero, List.set_cons_succ]
      refine wpB_do (i := 3) (o := { dst := some 42, op := Op.buildSlice 22 1 #[(0, Operand.const (Value.int IntKind.u8 1))], type := 22, pos := "law.go:100", after := #[], guard := none }) (by kernel_rfl) rfl (by rfl) fun K hK => ?_
      go_simp
      have hO6 := hO5'.drew.kept (growB (.cells #[.int .u8 1] 5))
      have r6 : Rd (w5.drew.alloc (.cells #[.int .u8 1] 5)) (.slice (some ⟨w5.heap.size, 0, none⟩) 1 1) [1] := Rd.lit1 1 rfl
      refine hK.out _ _ hO6.below ?_
      clear hK K
      try simp only [Act.put, List.setIfInBounds_toArray, List.set_cons_zero, List.set_cons_succ]
      refine wpB_do (i := 4) (o := { dst := some 43, op := Op.call { callee := Callee.value (Operand.func 9), args := #[Operand.tmp 41, Operand.tmp 42], argTypes := #[22, 22] }, type := 22, pos := "law.go:100", after := #[{ on := 2, ground := Ground.data }, { on := 3, ground := Ground.data }], guard := none }) (by kernel_rfl) rfl (by rfl) fun K hK => ?_
      go_simp
      refine (mac_any _ _ (mcF k b) [1] (by simp) _ (hT3.kept hO6.below) r6 (ht3.kept hO6.below)).mono ?_
      rintro e w7 ⟨v7, rfl, hN7⟩
      have hO7 := hO6.kept hN7.2
      refine hK.out _ _ hO7.below ?_
      clear hK K
      have hR7 : Rd w7 v7 (k1F k b) := hN7.rd
      have hcv7 := convS hR7
      clear r6 hO6
      try simp only [Act.put, List.setIfInBounds_toArray, List.set_cons_zero, List.set_cons_succ]
      refine wpB_do (i := 5) (o := { dst := some 44, op := Op.convert 22 9 (Operand.tmp 43), type := 9, pos := "law.go:100", after := #[{ on := 4, ground := Ground.data }], guard := none }) (by kernel_rfl) rfl (by rfl) fun K hK => ?_
      go_simp
      refine hK.out _ _ hO7.below ?_
      clear hK K
      clear hcv7 hR7 hN7
      try simp only [Act.put, List.setIfInBounds_toArray, List.set_cons_zero, List.set_cons_succ]
      refine wpB_take (hb := hO7.below) (i := 6) (oi := { dst := some 45, op := Op.binOp BinOp.eql 9 (Operand.tmp 40) (Operand.tmp 44) 9, type := 4, pos := "law.go:100", after := #[{ on := 1, ground := Ground.data }, { on := 5, ground := Ground.data }], guard := none }) (v := ?_) rfl (by kernel_rfl) (by kernel_rfl) (by kernel_rfl) (by rfl) ?_ ?_
      rotate_left
      · intro W hW; first | (go_simp; done) | (go_simp; with_reducible rfl)
      try simp only [Act.put, List.setIfInBounds_toArray, List.set_cons_zero, List.set_cons_succ]
      refine wpB_take (hb := hO7.below) (i := 7) (oi := { dst := some 46, op := Op.move (Operand.tmp 45), type := 4, pos := "law.go:100", after := #[{ on := 6, ground := Ground.data }, { on := 4, ground := Ground.chain }], guard := none }) (v := ?_) rfl (by kernel_rfl) (by kernel_rfl) (by kernel_rfl) (by rfl) ?_ ?_
      rotate_left
      · intro W hW; first | (go_simp; done) | (go_simp; with_reducible rfl)
      try simp only [Act.put, List.setIfInBounds_toArray, List.set_cons_zero, List.set_cons_succ]
      refine wpB_take (hb := hO7.below) (i := 8) (oi := { dst := some 47, op := Op.move (Operand.tmp 8), type := 22, pos := "law.go:100", after := #[{ on := 7, ground := Ground.guard }], guard := some (7, true) }) (v := ?_) rfl (by kernel_rfl) (by kernel_rfl) (by kernel_rfl) (by rfl) ?_ ?_
      rotate_left
      · intro W hW; first | (go_simp; done) | (go_simp; with_reducible rfl)
      try simp only [Act.put, List.setIfInBounds_toArray, List.set_cons_zero, List.set_cons_succ]
      refine wpB_take (hb := hO7.below) (i := 9) (oi := { dst := some 48, op := Op.convert 22 9 (Operand.tmp 47), type := 9, pos := "law.go:100", after := #[{ on := 8, ground := Ground.data }, { on := 7, ground := Ground.guard }], guard := some (7, true) }) (v := ?_) rfl (by kernel_rfl) (by kernel_rfl) (by kernel_rfl) (by rfl) ?_ ?_
      rotate_left
      · intro W hW; have hcv := convS (hC3.kept hW); first | (go_simp; done) | (go_simp; with_reducible rfl)
      try simp only [Act.put, List.setIfInBounds_toArray, List.set_cons_zero, List.set_cons_succ]
      refine wpB_take (hb := hO7.below) (i := 10) (oi := { dst := some 49, op := Op.move (Operand.tmp 6), type := 22, pos := "law.go:100", after := #[{ on := 7, ground := Ground.guard }], guard := some (7, true) }) (v := ?_) rfl (by kernel_rfl) (by kernel_rfl) (by kernel_rfl) (by rfl) ?_ ?_
      rotate_left
      · intro W hW; first | (go_simp; done) | (go_simp; with_reducible rfl)
      try simp only [Act.put, List.setIfInBounds_toArray, List.set_cons_zero, List.set_cons_succ]
      refine wpB_take (hb := hO7.below) (i := 11) (oi := { dst := some 50, op := Op.move (Operand.tmp 10), type := 22, pos := "law.go:100", after := #[{ on := 7, ground := Ground.guard }], guard := some (7, true) }) (v := ?_) rfl (by kernel_rfl) (by kernel_rfl) (by kernel_rfl) (by rfl) ?_ ?_
      rotate_left
      · intro W hW; first | (go_simp; done) | (go_simp; with_reducible rfl)
      try simp only [Act.put, List.setIfInBounds_toArray, List.set_cons_zero, List.set_cons_succ]
      refine wpB_do (i := 12) (o := { dst := some 51, op := Op.buildSlice 22 1 #[(0, Operand.const (Value.int IntKind.u8 2))], type := 22, pos := "law.go:100", after := #[{ on := 7, ground := Ground.guard }], guard := some (7, true) }) (by kernel_rfl) rfl (by rfl) fun K hK => ?_
      go_simp
      have hO8 := hO7.kept (growB (.cells #[.int .u8 2] 5))
      have r8 : Rd (w7.alloc (.cells #[.int .u8 2] 5)) (.slice (some ⟨w7.heap.size, 0, none⟩) 1 1) [2] := Rd.lit1 2 rfl
      refine hK.out _ _ hO8.below ?_
      clear hK K
      try simp only [Act.put, List.setIfInBounds_toArray, List.set_cons_zero, List.set_cons_succ]
      refine wpB_do (i := 13) (o := { dst := some 52, op := Op.call { callee := Callee.builtin Builtin.append, args := #[Operand.tmp 50, Operand.tmp 51], argTypes := #[22, 22] }, type := 22, pos := "law.go:100", after := #[{ on := 11, ground := Ground.data }, { on := 12, ground := Ground.data }, { on := 7, ground := Ground.chain }, { on := 7, ground := Ground.guard }], guard := some (7, true) }) (by kernel_rfl) rfl (by rfl) fun K hK => ?_
      refine wp_append_base (base := w3.heap.size) _ _ 22 (by rfl) 5 Tryd.underlying22 infoU8 _ _ (by rfl) (hO8.rows _ (List.mem_cons_self ..)) hO8.below.size _ _ (by rfl) r8 (by have := HA.out; simp; omega) ?_
      intro v9 w9 q1 q2 q3
      have hO9 := hO8.append q1 q2 q3
      clear q1 q2 q3
      refine hK.out _ _ hO9.below ?_
      clear hK K
      have hX9 := hO9.rd (List.mem_cons_self ..)
      clear hO8 hO7 r8
      try simp only [Act.put, List.setIfInBounds_toArray, List.set_cons_zero, List.set_cons_succ]
      refine wpB_do (i := 14) (o := { dst := some 53, op := Op.call { callee := Callee.value (Operand.func 9), args := #[Operand.tmp 49, Operand.tmp 52], argTypes := #[22, 22] }, type := 22, pos := "law.go:100", after := #[{ on := 10, ground := Ground.data }, { on := 13, ground := Ground.data }, { on := 13, ground := Ground.chain }, { on := 7, ground := Ground.guard }], guard := some (7, true) }) (by kernel_rfl) rfl (by rfl) fun K hK => ?_
      go_simp
      refine (mac_any _ _ (mcF k b) (k1F k b ++ [2]) (by have := HA.out; simp; omega) _ (hT3.kept hO9.below) hX9 (ht3.kept hO9.below)).mono ?_
      rintro e w10 ⟨v10, rfl, hN10⟩
      have hO10 := hO9.kept hN10.2
      refine hK.out _ _ hO10.below ?_
      clear hK K
      have hR10 : Rd w10 v10 (k2F k b) := hN10.rd
      have hcv10 := convS hR10
      clear hX9 hO9
      try simp only [Act.put, List.setIfInBounds_toArray, List.set_cons_zero, List.set_cons_succ]
      refine wpB_do (i := 15) (o := { dst := some 54, op := Op.convert 22 9 (Operand.tmp 53), type := 9, pos := "law.go:100", after := #[{ on := 14, ground := Ground.data }, { on := 7, ground := Ground.guard }], guard := some (7, true) }) (by kernel_rfl) rfl (by rfl) fun K hK => ?_
      go_simp
      refine hK.out _ _ hO10.below ?_
      clear hK K
      clear hcv10 hR10 hN10
      try simp only [Act.put, List.setIfInBounds_toArray, List.set_cons_zero, List.set_cons_succ]
      refine wpB_take (hb := hO10.below) (i := 16) (oi := { dst := some 55, op := Op.binOp BinOp.eql 9 (Operand.tmp 48) (Operand.tmp 54) 9, type := 4, pos := "law.go:100", after := #[{ on := 9, ground := Ground.data }, { on := 15, ground := Ground.data }, { on := 7, ground := Ground.guard }], guard := some (7, true) }) (v := ?_) rfl (by kernel_rfl) (by kernel_rfl) (by kernel_rfl) (by rfl) ?_ ?_
      rotate_left
      · intro W hW; first | (go_simp; done) | (go_simp; with_reducible rfl)
      try simp only [Act.put, List.setIfInBounds_toArray, List.set_cons_zero, List.set_cons_succ]
      refine wpB_take (hb := hO10.below) (i := 17) (oi := { dst := some 56, op := Op.pick (Operand.tmp 46) (Operand.tmp 55) (Operand.const (Value.bool false)), type := 4, pos := "law.go:100", after := #[{ on := 7, ground := Ground.data }, { on := 16, ground := Ground.data }], guard := none }) (v := ?_) rfl (by kernel_rfl) (by kernel_rfl) (by kernel_rfl) (by rfl) ?_ ?_
      rotate_left
      · intro W hW; first | (go_simp; done) | (go_simp; with_reducible rfl)
      try simp only [Act.put, List.setIfInBounds_toArray, List.set_cons_zero, List.set_cons_succ]
      refine wpB_take (hb := hO10.below) (i := 18) (oi := { dst := some 57, op := Op.move (Operand.tmp 56), type := 4, pos := "law.go:100", after := #[{ on := 17, ground := Ground.data }, { on := 14, ground := Ground.chain }], guard := none }) (v := ?_) rfl (by kernel_rfl) (by kernel_rfl) (by kernel_rfl) (by rfl) ?_ ?_
      rotate_left
      · intro W hW; first | (go_simp; done) | (go_simp; with_reducible rfl)
      try simp only [Act.put, List.setIfInBounds_toArray, List.set_cons_zero, List.set_cons_succ]
      refine wpB_take (hb := hO10.below) (i := 19) (oi := { dst := some 58, op := Op.move (Operand.tmp 9), type := 22, pos := "law.go:100", after := #[{ on := 18, ground := Ground.guard }], guard := some (18, true) }) (v := ?_) rfl (by kernel_rfl) (by kernel_rfl) (by kernel_rfl) (by rfl) ?_ ?_
      rotate_left
      · intro W hW; first | (go_simp; done) | (go_simp; with_reducible rfl)
      try simp only [Act.put, List.setIfInBounds_toArray, List.set_cons_zero, List.set_cons_succ]
      refine wpB_take (hb := hO10.below) (i := 20) (oi := { dst := some 59, op := Op.convert 22 9 (Operand.tmp 58), type := 9, pos := "law.go:100", after := #[{ on := 19, ground := Ground.data }, { on := 18, ground := Ground.guard }], guard := some (18, true) }) (v := ?_) rfl (by kernel_rfl) (by kernel_rfl) (by kernel_rfl) (by rfl) ?_ ?_
      rotate_left
      · intro W hW; have hcv := convS (hD3.kept hW); first | (go_simp; done) | (go_simp; with_reducible rfl)
      try simp only [Act.put, List.setIfInBounds_toArray, List.set_cons_zero, List.set_cons_succ]
      refine wpB_take (hb := hO10.below) (i := 21) (oi := { dst := some 60, op := Op.move (Operand.tmp 6), type := 22, pos := "law.go:100", after := #[{ on := 18, ground := Ground.guard }], guard := some (18, true) }) (v := ?_) rfl (by kernel_rfl) (by kernel_rfl) (by kernel_rfl) (by rfl) ?_ ?_
      rotate_left
      · intro W hW; first | (go_simp; done) | (go_simp; with_reducible rfl)
      try simp only [Act.put, List.setIfInBounds_toArray, List.set_cons_zero, List.set_cons_succ]
      refine wpB_take (hb := hO10.below) (i := 22) (oi := { dst := some 61, op := Op.move (Operand.tmp 11), type := 22, pos := "law.go:100", after := #[{ on := 18, ground := Ground.guard }], guard := some (18, true) }) (v := ?_) rfl (by kernel_rfl) (by kernel_rfl) (by kernel_rfl) (by rfl) ?_ ?_
      rotate_left
      · intro W hW; first | (go_simp; done) | (go_simp; with_reducible rfl)
      try simp only [Act.put, List.setIfInBounds_toArray, List.set_cons_zero, List.set_cons_succ]
      refine wpB_do (i := 23) (o := { dst := some 62, op := Op.buildSlice 22 1 #[(0, Operand.const (Value.int IntKind.u8 3))], type := 22, pos := "law.go:100", after := #[{ on := 18, ground := Ground.guard }], guard := some (18, true) }) (by kernel_rfl) rfl (by rfl) fun K hK => ?_
      go_simp
      have hO11 := (hO10.perm (List.Perm.swap ..)).kept (growB (.cells #[.int .u8 3] 5))
      have r11 : Rd (w10.alloc (.cells #[.int .u8 3] 5)) (.slice (some ⟨w10.heap.size, 0, none⟩) 1 1) [3] := Rd.lit1 3 rfl
      refine hK.out _ _ hO11.below ?_
      clear hK K
      try simp only [Act.put, List.setIfInBounds_toArray, List.set_cons_zero, List.set_cons_succ]
      refine wpB_do (i := 24) (o := { dst := some 63, op := Op.call { callee := Callee.builtin Builtin.append, args := #[Operand.tmp 61, Operand.tmp 62], argTypes := #[22, 22] }, type := 22, pos := "law.go:100", after := #[{ on := 22, ground := Ground.data }, { on := 23, ground := Ground.data }, { on := 18, ground := Ground.chain }, { on := 18, ground := Ground.guard }], guard := some (18, true) }) (by kernel_rfl) rfl (by rfl) fun K hK => ?_
      refine wp_append_base (base := w3.heap.size) _ _ 22 (by rfl) 5 Tryd.underlying22 infoU8 _ _ (by rfl) (hO11.rows _ (List.mem_cons_self ..)) hO11.below.size _ _ (by rfl) r11 (by have := HC.out; simp; omega) ?_
      intro v12 w12 q1 q2 q3
      have hO12 := hO11.append q1 q2 q3
      clear q1 q2 q3
      refine hK.out _ _ hO12.below ?_
      clear hK K
      have hX12 := hO12.rd (List.mem_cons_self ..)
      clear hO11 hO10 r11
      try simp only [Act.put, List.setIfInBounds_toArray, List.set_cons_zero, List.set_cons_succ]
      refine wpB_do (i := 25) (o := { dst := some 64, op := Op.call { callee := Callee.value (Operand.func 9), args := #[Operand.tmp 60, Operand.tmp 63], argTypes := #[22, 22] }, type := 22, pos := "law.go:100", after := #[{ on := 21, ground := Ground.data }, { on := 24, ground := Ground.data }, { on := 24, ground := Ground.chain }, { on := 18, ground := Ground.guard }], guard := some (18, true) }) (by kernel_rfl) rfl (by rfl) fun K hK => ?_
      go_simp
      refine (mac_any _ _ (mcF k b) (k2F k b ++ [3]) (by have := HC.out; simp; omega) _ (hT3.kept hO12.below) hX12 (ht3.kept hO12.below)).mono ?_
      rintro e w13 ⟨v13, rfl, hN13⟩
      have hO13 := hO12.kept hN13.2
      refine hK.out _ _ hO13.below ?_
      clear hK K
      have hR13 : Rd w13 v13 (k3F k b) := hN13.rd
      have hcv13 := convS hR13
      clear hX12 hO12
      try simp only [Act.put, List.setIfInBounds_toArray, List.set_cons_zero, List.set_cons_succ]
      refine wpB_do (i := 26) (o := { dst := some 65, op := Op.convert 22 9 (Operand.tmp 64), type := 9, pos := "law.go:100", after := #[{ on := 25, ground := Ground.data }, { on := 18, ground := Ground.guard }], guard := some (18, true) }) (by kernel_rfl) rfl (by rfl) fun K hK => ?_
      go_simp
      refine hK.out _ _ hO13.below ?_
      clear hK K
      try simp only [Act.put, List.setIfInBounds_toArray, List.set_cons_zero, List.set_cons_succ]
      refine wpB_take (hb := hO13.below) (i := 27) (oi := { dst := some 66, op := Op.binOp BinOp.eql 9 (Operand.tmp 59) (Operand.tmp 65) 9, type := 4, pos := "law.go:100", after := #[{ on := 20, ground := Ground.data }, { on := 26, ground := Ground.data }, { on := 18, ground := Ground.guard }], guard := some (18, true) }) (v := ?_) rfl (by kernel_rfl) (by kernel_rfl) (by kernel_rfl) (by rfl) ?_ ?_
      rotate_left
      · intro W hW; first | (go_simp; done) | (go_simp; with_reducible rfl)
      try simp only [Act.put, List.setIfInBounds_toArray, List.set_cons_zero, List.set_cons_succ]
      refine wpB_take (hb := hO13.below) (i := 28) (oi := { dst := some 67, op := Op.pick (Operand.tmp 57) (Operand.tmp 66) (Operand.const (Value.bool false)), type := 4, pos := "law.go:100", after := #[{ on := 18, ground := Ground.data }, { on := 27, ground := Ground.data }], guard := none }) (v := ?_) rfl (by kernel_rfl) (by kernel_rfl) (by kernel_rfl) (by rfl) ?_ ?_
      rotate_left
      · intro W hW; first | (go_simp; done) | (go_simp; with_reducible rfl)
      try simp only [Act.put, List.setIfInBounds_toArray, List.set_cons_zero, List.set_cons_succ]
      refine wpB_take (hb := hO13.below) (i := 29) (oi := { dst := some 4, op := Op.assign (Operand.tmp 67), type := 4, pos := "law.go:100", after := #[{ on := 28, ground := Ground.data }, { on := 25, ground := Ground.chain }, { on := 0, ground := Ground.phase }, { on := 1, ground := Ground.phase }, { on := 2, ground := Ground.phase }, { on := 3, ground := Ground.phase }, { on := 4, ground := Ground.phase }, { on := 5, ground := Ground.phase }, { on := 6, ground := Ground.phase }, { on := 7, ground := Ground.phase }, { on := 8, ground := Ground.phase }, { on := 9, ground := Ground.phase }, { on := 10, ground := Ground.phase }, { on := 11, ground := Ground.phase }, { on := 12, ground := Ground.phase }, { on := 13, ground := Ground.phase }, { on := 14, ground := Ground.phase }, { on := 15, ground := Ground.phase }, { on := 16, ground := Ground.phase }, { on := 17, ground := Ground.phase }, { on := 18, ground := Ground.phase }, { on := 19, ground := Ground.phase }, { on := 20, ground := Ground.phase }, { on := 21, ground := Ground.phase }, { on := 22, ground := Ground.phase }, { on := 23, ground := Ground.phase }, { on := 24, ground := Ground.phase }, { on := 25, ground := Ground.phase }, { on := 26, ground := Ground.phase }, { on := 27, ground := Ground.phase }, { on := 28, ground := Ground.phase }], guard := none }) (v := ?_) rfl (by kernel_rfl) (by kernel_rfl) (by kernel_rfl) (by rfl) ?_ ?_
      rotate_left
      · intro W hW; first | (go_simp; done) | (go_simp; with_reducible rfl)
      try simp only [Act.put, List.setIfInBounds_toArray, List.set_cons_zero, List.set_cons_succ]
      refine wpB_done (by kernel_rfl) ?_
      go_wp2
      go_ret
      exact ⟨rfl, stepB HB5.out hO13.below⟩
    · have d2 : decide ((500 : Int) < (b.length : Int)) = true := decide_eq_true (by omega)
      have g2 : (500 : Int) < (b.length : Int) := by omega
      go_enter Tryd.func7, Tryd.ntmps7
      go_wp2_with fail
      refine (awake_any _ ht).mono ?_
      rintro e w1 ⟨rfl, hB1⟩
      go_wp2
      go_ret
      exact ⟨rfl, hB1⟩
  · have d1 : decide ((500 : Int) < (k.length : Int)) = true := decide_eq_true (by omega)
    have g1 : (500 : Int) < (k.length : Int) := by omega
    go_enter Tryd.func7, Tryd.ntmps7
    go_wp2_with fail
    refine (awake_any _ ht).mono ?_
    rintro e w1 ⟨rfl, hB1⟩
    go_wp2
    go_ret
    exact ⟨rfl, hB1⟩
end Go.Proofs.YtkoecgoajbgkgaaDoor
