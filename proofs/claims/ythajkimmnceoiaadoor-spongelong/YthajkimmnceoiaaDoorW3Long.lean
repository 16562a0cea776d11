/- What the law SpongeLong answers at every input: the walk. -/
import Derived.Test.YthajkimmnceoiaaDoorS03h
import Derived.Test.YthajkimmnceoiaaDoorRef03p
import Derived.Test.YthajkimmnceoiaaDoorRef03q
import Derived.Test.YthajkimmnceoiaaDoorRef03s
namespace Go.Proofs.YthajkimmnceoiaaDoor
open Go.ChangeShapes Go.WideShapes Go.ChangeAt Go.RowKit
set_option linter.unusedSimpArgs false
set_option linter.unusedVariables false

set_option maxRecDepth 100000 in
set_option maxHeartbeats 2000000 in
theorem long_walk (c : UInt8) (C : Int) (hC : C = (c.toNat : Int)) (n m : Int) (w : World) (ht : Tabs w) :
    Calls Tryd.prog 7 #[.int .u8 C, .int .i64 n, .int .i64 m] w fun e w' => e = .returned (.bool true) ∧ Below w.heap.size w w' := by
  subst hC
  have hk2 := ht.two
  obtain ⟨k, hk, hka⟩ := and_small n 2047 (by decide)
  obtain ⟨j, hj, hja⟩ := and_small m 1023 (by decide)
  have hka' : bits .and .i64 n 2047 = (k : Int) := hka
  have hja' : bits .and .i64 m 1023 = (j : Int) := hja
  clear hka hja
  go_enter Tryd.func7, Tryd.ntmps7
  go_wp2_with fail
  refine (awake_any _ ht).mono ?_
  rintro e w1 ⟨rfl, hB1⟩
  have ht1 := ht.kept hB1
  have z1 := hB1.size
  clear ht
  go_wp2
  go_loopw [8, 9] (fun v i wr => ∃ t : Nat, t ≤ k ∧ i = .int .i64 t ∧ New 5 w1 v (List.replicate t c) wr) (fun _ i _ => k - (intOf i).toNat)
  case atStart => exact ⟨0, Nat.zero_le _, rfl, New.start w1⟩
  case round =>
    obtain ⟨t, htk, rfl, hN⟩ := hrel
    by_cases hlt : t < k
    · have hd : decide ((t : Int) < (k : Int)) = true := decide_eq_true (by omega)
      have htI : (t : Int) < k := by omega
      have hL : Rd (wr.alloc (.cells #[.int .u8 (c.toNat : Int)] 5)) (.slice (some ⟨wr.heap.size, 0, none⟩) 1 1) [c] := Rd.litc [c] rfl rfl rfl (by simp [maxLen])
      have HR : Hid (List.replicate t c ++ [c] = List.replicate (t + 1) c) := by show _ = _; rw [List.replicate_succ']
      go_wp2_with (at_builtin; go_must (refine wpList_append_new (w := w1) rfl _ _ 22 rfl 5 Tryd.underlying22 info5 _ _ rfl (hN.alloc _) _ _ rfl hL (by simp; omega) ?_))
      intro v' w3 hN3 _
      rw [HR.out] at hN3
      clear hN hL HR
      go_wp2
      go_roundw
      case rel => exact ⟨t + 1, by omega, by go_num, hN3⟩
      case measure => simp [intOf]; omega
    · have hte : t = k := by omega
      have hd : decide ((t : Int) < (k : Int)) = false := decide_eq_false (by omega)
      have htI : (k : Int) ≤ t := by omega
      obtain ⟨l, hl⟩ : ∃ l : List UInt8, l = List.replicate t c := ⟨_, rfl⟩
      have hll : l.length ≤ 1000000 := by rw [hl]; simp; omega
      have hr1 : Rd wr u8 l := by rw [hl]; exact hN.rd
      have hb1 := stepB hB1 hN.2
      have ht2 := ht1.kept hN.2
      have z2 := hN.2.size
      have hj2 : j = (j : Int).toNat := by omega
      have HJ : Hid (j = (j : Int).toNat) := hj2
      clear hN hl hte hj2 hB1 ht1
      go_wp2_with fail
      refine wpG_begin (by kernel_rfl) ?_
      refine wpG_take (i := 0) (oi := { dst := some 26, op := Op.move (Operand.tmp 8), type := 22, pos := "law.go:113", after := #[], guard := none }) (v := ?_) rfl (by kernel_rfl) (by kernel_rfl) (by kernel_rfl) (by rfl) ?_ ?_
      rotate_left
      · intro W hW; first | (go_simp; done) | (go_simp; with_reducible rfl)
      try simp only [Act.put, List.setIfInBounds_toArray, List.set_cons_zero, List.set_cons_succ]
      refine wpG_take (i := 3) (oi := { dst := some 29, op := Op.move (Operand.tmp 8), type := 22, pos := "law.go:113", after := #[], guard := none }) (v := ?_) rfl (by kernel_rfl) (by kernel_rfl) (by kernel_rfl) (by rfl) ?_ ?_
      rotate_left
      · intro W hW; first | (go_simp; done) | (go_simp; with_reducible rfl)
      try simp only [Act.put, List.setIfInBounds_toArray, List.set_cons_zero, List.set_cons_succ]
      refine wpG_do (i := 1) (o := { dst := some 27, op := Op.call { callee := Callee.value (Operand.func 12), args := #[Operand.tmp 26], argTypes := #[22] }, type := 22, pos := "law.go:113", after := #[{ on := 0, ground := Ground.data }], guard := none }) (by kernel_rfl) rfl (by rfl) fun K hK => ?_
      go_simp
      refine (sum256_any _ l _ hr1.drew (ht2.kept (Below.refl _ _).drew)).mono ?_
      rintro e w2 ⟨v2, rfl, hN2⟩
      refine hK.out _ _ hN2.2 ?_
      clear hK K
      have hr2 := hr1.drew.kept hN2.2
      have ht3 := (ht2.kept (Below.refl _ _).drew).kept hN2.2
      have hb2 := stepB hb1.drew hN2.2
      have hR2 := hN2.rd
      try simp only [Act.put, List.setIfInBounds_toArray, List.set_cons_zero, List.set_cons_succ]
      refine wpG_take (i := 2) (oi := { dst := some 28, op := Op.convert 22 9 (Operand.tmp 27), type := 9, pos := "law.go:113", after := #[{ on := 1, ground := Ground.data }], guard := none }) (v := ?_) rfl (by kernel_rfl) (by kernel_rfl) (by kernel_rfl) (by rfl) ?_ ?_
      rotate_left
      · intro W hW; have hcv := convS (hR2.kept hW); first | (go_simp; done) | (go_simp; with_reducible rfl)
      try simp only [Act.put, List.setIfInBounds_toArray, List.set_cons_zero, List.set_cons_succ]
      refine wpG_do (i := 4) (o := { dst := some 30, op := Op.call { callee := Callee.value (Operand.func 13), args := #[Operand.tmp 29], argTypes := #[22] }, type := 22, pos := "law.go:113", after := #[{ on := 3, ground := Ground.data }, { on := 1, ground := Ground.chain }], guard := none }) (by kernel_rfl) rfl (by rfl) fun K hK => ?_
      go_simp
      refine (sum256R_any _ l hll _ hr2).mono ?_
      rintro e w3 ⟨v3, rfl, hR3, hB3⟩
      refine hK.out _ _ hB3 ?_
      clear hK K
      have hr3 := hr2.kept hB3
      have ht4 := ht3.kept hB3
      have hb3 := stepB hb2 hB3
      try simp only [Act.put, List.setIfInBounds_toArray, List.set_cons_zero, List.set_cons_succ]
      refine wpG_take (i := 5) (oi := { dst := some 31, op := Op.convert 22 9 (Operand.tmp 30), type := 9, pos := "law.go:113", after := #[{ on := 4, ground := Ground.data }], guard := none }) (v := ?_) rfl (by kernel_rfl) (by kernel_rfl) (by kernel_rfl) (by rfl) ?_ ?_
      rotate_left
      · intro W hW; have hcv := convS (hR3.kept hW); first | (go_simp; done) | (go_simp; with_reducible rfl)
      try simp only [Act.put, List.setIfInBounds_toArray, List.set_cons_zero, List.set_cons_succ]
      refine wpG_take (i := 6) (oi := { dst := some 32, op := Op.binOp BinOp.eql 9 (Operand.tmp 28) (Operand.tmp 31) 9, type := 4, pos := "law.go:113", after := #[{ on := 2, ground := Ground.data }, { on := 5, ground := Ground.data }], guard := none }) (v := ?_) rfl (by kernel_rfl) (by kernel_rfl) (by kernel_rfl) (by rfl) ?_ ?_
      rotate_left
      · intro W hW; first | (go_simp; done) | (go_simp; with_reducible rfl)
      try simp only [Act.put, List.setIfInBounds_toArray, List.set_cons_zero, List.set_cons_succ]
      refine wpG_take (i := 7) (oi := { dst := some 33, op := Op.move (Operand.tmp 32), type := 4, pos := "law.go:113", after := #[{ on := 6, ground := Ground.data }, { on := 4, ground := Ground.chain }], guard := none }) (v := ?_) rfl (by kernel_rfl) (by kernel_rfl) (by kernel_rfl) (by rfl) ?_ ?_
      rotate_left
      · intro W hW; first | (go_simp; done) | (go_simp; with_reducible rfl)
      try simp only [Act.put, List.setIfInBounds_toArray, List.set_cons_zero, List.set_cons_succ]
      refine wpG_take (i := 8) (oi := { dst := some 34, op := Op.move (Operand.tmp 8), type := 22, pos := "law.go:113", after := #[{ on := 7, ground := Ground.guard }], guard := some (7, true) }) (v := ?_) rfl (by kernel_rfl) (by kernel_rfl) (by kernel_rfl) (by rfl) ?_ ?_
      rotate_left
      · intro W hW; first | (go_simp; done) | (go_simp; with_reducible rfl)
      try simp only [Act.put, List.setIfInBounds_toArray, List.set_cons_zero, List.set_cons_succ]
      refine wpG_take (i := 11) (oi := { dst := some 37, op := Op.move (Operand.tmp 8), type := 22, pos := "law.go:113", after := #[{ on := 7, ground := Ground.guard }], guard := some (7, true) }) (v := ?_) rfl (by kernel_rfl) (by kernel_rfl) (by kernel_rfl) (by rfl) ?_ ?_
      rotate_left
      · intro W hW; first | (go_simp; done) | (go_simp; with_reducible rfl)
      try simp only [Act.put, List.setIfInBounds_toArray, List.set_cons_zero, List.set_cons_succ]
      refine wpG_do (i := 9) (o := { dst := some 35, op := Op.call { callee := Callee.value (Operand.func 14), args := #[Operand.tmp 34], argTypes := #[22] }, type := 22, pos := "law.go:113", after := #[{ on := 8, ground := Ground.data }, { on := 7, ground := Ground.chain }, { on := 7, ground := Ground.guard }], guard := some (7, true) }) (by kernel_rfl) rfl (by rfl) fun K hK => ?_
      go_simp
      refine (sum512_any _ l _ hr3 ht4).mono ?_
      rintro e w4 ⟨v4, rfl, hN4⟩
      refine hK.out _ _ hN4.2 ?_
      clear hK K
      have hr4 := hr3.kept hN4.2
      have ht5 := ht4.kept hN4.2
      have hb4 := stepB hb3 hN4.2
      have hR4 := hN4.rd
      try simp only [Act.put, List.setIfInBounds_toArray, List.set_cons_zero, List.set_cons_succ]
      refine wpG_take (i := 10) (oi := { dst := some 36, op := Op.convert 22 9 (Operand.tmp 35), type := 9, pos := "law.go:113", after := #[{ on := 9, ground := Ground.data }, { on := 7, ground := Ground.guard }], guard := some (7, true) }) (v := ?_) rfl (by kernel_rfl) (by kernel_rfl) (by kernel_rfl) (by rfl) ?_ ?_
      rotate_left
      · intro W hW; have hcv := convS (hR4.kept hW); first | (go_simp; done) | (go_simp; with_reducible rfl)
      try simp only [Act.put, List.setIfInBounds_toArray, List.set_cons_zero, List.set_cons_succ]
      refine wpG_do (i := 12) (o := { dst := some 38, op := Op.call { callee := Callee.value (Operand.func 15), args := #[Operand.tmp 37], argTypes := #[22] }, type := 22, pos := "law.go:113", after := #[{ on := 11, ground := Ground.data }, { on := 9, ground := Ground.chain }, { on := 7, ground := Ground.guard }], guard := some (7, true) }) (by kernel_rfl) rfl (by rfl) fun K hK => ?_
      go_simp
      refine (sum512R_any _ l hll _ hr4).mono ?_
      rintro e w5 ⟨v5, rfl, hR5, hB5⟩
      refine hK.out _ _ hB5 ?_
      clear hK K
      have hr5 := hr4.kept hB5
      have ht6 := ht5.kept hB5
      have hb5 := stepB hb4 hB5
      try simp only [Act.put, List.setIfInBounds_toArray, List.set_cons_zero, List.set_cons_succ]
      refine wpG_take (i := 13) (oi := { dst := some 39, op := Op.convert 22 9 (Operand.tmp 38), type := 9, pos := "law.go:113", after := #[{ on := 12, ground := Ground.data }, { on := 7, ground := Ground.guard }], guard := some (7, true) }) (v := ?_) rfl (by kernel_rfl) (by kernel_rfl) (by kernel_rfl) (by rfl) ?_ ?_
      rotate_left
      · intro W hW; have hcv := convS (hR5.kept hW); first | (go_simp; done) | (go_simp; with_reducible rfl)
      try simp only [Act.put, List.setIfInBounds_toArray, List.set_cons_zero, List.set_cons_succ]
      refine wpG_take (i := 14) (oi := { dst := some 40, op := Op.binOp BinOp.eql 9 (Operand.tmp 36) (Operand.tmp 39) 9, type := 4, pos := "law.go:113", after := #[{ on := 10, ground := Ground.data }, { on := 13, ground := Ground.data }, { on := 7, ground := Ground.guard }], guard := some (7, true) }) (v := ?_) rfl (by kernel_rfl) (by kernel_rfl) (by kernel_rfl) (by rfl) ?_ ?_
      rotate_left
      · intro W hW; first | (go_simp; done) | (go_simp; with_reducible rfl)
      try simp only [Act.put, List.setIfInBounds_toArray, List.set_cons_zero, List.set_cons_succ]
      refine wpG_take (i := 15) (oi := { dst := some 41, op := Op.pick (Operand.tmp 33) (Operand.tmp 40) (Operand.const (Value.bool false)), type := 4, pos := "law.go:113", after := #[{ on := 7, ground := Ground.data }, { on := 14, ground := Ground.data }], guard := none }) (v := ?_) rfl (by kernel_rfl) (by kernel_rfl) (by kernel_rfl) (by rfl) ?_ ?_
      rotate_left
      · intro W hW; first | (go_simp; done) | (go_simp; with_reducible rfl)
      try simp only [Act.put, List.setIfInBounds_toArray, List.set_cons_zero, List.set_cons_succ]
      refine wpG_take (i := 16) (oi := { dst := some 42, op := Op.move (Operand.tmp 41), type := 4, pos := "law.go:113", after := #[{ on := 15, ground := Ground.data }, { on := 12, ground := Ground.chain }], guard := none }) (v := ?_) rfl (by kernel_rfl) (by kernel_rfl) (by kernel_rfl) (by rfl) ?_ ?_
      rotate_left
      · intro W hW; first | (go_simp; done) | (go_simp; with_reducible rfl)
      try simp only [Act.put, List.setIfInBounds_toArray, List.set_cons_zero, List.set_cons_succ]
      refine wpG_take (i := 17) (oi := { dst := some 43, op := Op.move (Operand.tmp 8), type := 22, pos := "law.go:113", after := #[{ on := 16, ground := Ground.guard }], guard := some (16, true) }) (v := ?_) rfl (by kernel_rfl) (by kernel_rfl) (by kernel_rfl) (by rfl) ?_ ?_
      rotate_left
      · intro W hW; first | (go_simp; done) | (go_simp; with_reducible rfl)
      try simp only [Act.put, List.setIfInBounds_toArray, List.set_cons_zero, List.set_cons_succ]
      refine wpG_take (i := 19) (oi := { dst := some 45, op := Op.move (Operand.tmp 10), type := 3, pos := "law.go:113", after := #[{ on := 16, ground := Ground.guard }], guard := some (16, true) }) (v := ?_) rfl (by kernel_rfl) (by kernel_rfl) (by kernel_rfl) (by rfl) ?_ ?_
      rotate_left
      · intro W hW; first | (go_simp; done) | (go_simp; with_reducible rfl)
      try simp only [Act.put, List.setIfInBounds_toArray, List.set_cons_zero, List.set_cons_succ]
      refine wpG_take (i := 22) (oi := { dst := some 48, op := Op.move (Operand.tmp 8), type := 22, pos := "law.go:113", after := #[{ on := 16, ground := Ground.guard }], guard := some (16, true) }) (v := ?_) rfl (by kernel_rfl) (by kernel_rfl) (by kernel_rfl) (by rfl) ?_ ?_
      rotate_left
      · intro W hW; first | (go_simp; done) | (go_simp; with_reducible rfl)
      try simp only [Act.put, List.setIfInBounds_toArray, List.set_cons_zero, List.set_cons_succ]
      refine wpG_take (i := 23) (oi := { dst := some 49, op := Op.move (Operand.tmp 10), type := 3, pos := "law.go:113", after := #[{ on := 16, ground := Ground.guard }], guard := some (16, true) }) (v := ?_) rfl (by kernel_rfl) (by kernel_rfl) (by kernel_rfl) (by rfl) ?_ ?_
      rotate_left
      · intro W hW; first | (go_simp; done) | (go_simp; with_reducible rfl)
      try simp only [Act.put, List.setIfInBounds_toArray, List.set_cons_zero, List.set_cons_succ]
      refine wpG_keep ?_
      refine wpB_do (i := 18) (o := { dst := some 44, op := Op.call { callee := Callee.value (Operand.func 17), args := #[Operand.tmp 43], argTypes := #[22] }, type := 34, pos := "law.go:113", after := #[{ on := 17, ground := Ground.data }, { on := 16, ground := Ground.chain }, { on := 16, ground := Ground.guard }], guard := some (16, true) }) (by kernel_rfl) rfl (by rfl) fun K hK => ?_
      go_simp
      refine (shake256_any _ l _ hr5 ht6).mono ?_
      rintro e w6 ⟨gx, rfl, hgx, hX6, hB6⟩
      refine hK.out _ _ hB6 ?_
      clear hK K
      have hr6 := hr5.kept hB6
      have ht7 := ht6.kept hB6
      have z6 := hB6.size
      have z5 := hb5.size
      try simp only [Act.put, List.setIfInBounds_toArray, List.set_cons_zero, List.set_cons_succ]
      refine wpB_do (i := 20) (o := { dst := some 46, op := Op.call { callee := Callee.value (Operand.func 18), args := #[Operand.tmp 44, Operand.tmp 45], argTypes := #[34, 3] }, type := 22, pos := "law.go:113", after := #[{ on := 18, ground := Ground.data }, { on := 19, ground := Ground.data }, { on := 18, ground := Ground.chain }, { on := 16, ground := Ground.guard }], guard := some (16, true) }) (by kernel_rfl) rfl (by rfl) fun K hK => ?_
      go_simp
      refine (read_any gx (abF 136 31 l) (abF_lt _ _ _) 136 0 (by omega) (by omega) (j : Int) j HJ.out (by omega) _ hX6 (by omega) ht7).mono ?_
      rintro e w7 ⟨v7, rfl, hO7, hX7, hC7, ht8⟩
      have hB7 : Below w5.heap.size w5 w7 := hC7.past hB6 z6 hgx
      refine hK.out _ _ hB7 ?_
      clear hK K
      refine wpB_renew hB7 ?_
      have hr7 := hr5.kept hB7
      have hb7 := stepB hb5 hB7
      have hR7 := Rd.of_row hO7
      rw [pcL_first] at hR7
      try simp only [Act.put, List.setIfInBounds_toArray, List.set_cons_zero, List.set_cons_succ]
      refine wpG_take (i := 21) (oi := { dst := some 47, op := Op.convert 22 9 (Operand.tmp 46), type := 9, pos := "law.go:113", after := #[{ on := 20, ground := Ground.data }, { on := 16, ground := Ground.guard }], guard := some (16, true) }) (v := ?_) rfl (by kernel_rfl) (by kernel_rfl) (by kernel_rfl) (by rfl) ?_ ?_
      rotate_left
      · intro W hW; have hcv := convS (hR7.kept hW); first | (go_simp; done) | (go_simp; with_reducible rfl)
      try simp only [Act.put, List.setIfInBounds_toArray, List.set_cons_zero, List.set_cons_succ]
      refine wpG_do (i := 24) (o := { dst := some 50, op := Op.call { callee := Callee.value (Operand.func 20), args := #[Operand.tmp 48, Operand.tmp 49], argTypes := #[22, 3] }, type := 22, pos := "law.go:113", after := #[{ on := 22, ground := Ground.data }, { on := 23, ground := Ground.data }, { on := 20, ground := Ground.chain }, { on := 16, ground := Ground.guard }], guard := some (16, true) }) (by kernel_rfl) rfl (by rfl) fun K hK => ?_
      go_simp
      refine (shake256R_any _ l hll j (by omega) _ hr7).mono ?_
      rintro e w8 ⟨v8, rfl, hR8, hB8⟩
      refine hK.out _ _ hB8 ?_
      clear hK K
      have hb8 := stepB hb7 hB8
      try simp only [Act.put, List.setIfInBounds_toArray, List.set_cons_zero, List.set_cons_succ]
      refine wpG_take (i := 25) (oi := { dst := some 51, op := Op.convert 22 9 (Operand.tmp 50), type := 9, pos := "law.go:113", after := #[{ on := 24, ground := Ground.data }, { on := 16, ground := Ground.guard }], guard := some (16, true) }) (v := ?_) rfl (by kernel_rfl) (by kernel_rfl) (by kernel_rfl) (by rfl) ?_ ?_
      rotate_left
      · intro W hW; have hcv := convS (hR8.kept hW); first | (go_simp; done) | (go_simp; with_reducible rfl)
      try simp only [Act.put, List.setIfInBounds_toArray, List.set_cons_zero, List.set_cons_succ]
      refine wpG_take (i := 26) (oi := { dst := some 52, op := Op.binOp BinOp.eql 9 (Operand.tmp 47) (Operand.tmp 51) 9, type := 4, pos := "law.go:113", after := #[{ on := 21, ground := Ground.data }, { on := 25, ground := Ground.data }, { on := 16, ground := Ground.guard }], guard := some (16, true) }) (v := ?_) rfl (by kernel_rfl) (by kernel_rfl) (by kernel_rfl) (by rfl) ?_ ?_
      rotate_left
      · intro W hW; first | (go_simp; done) | (go_simp; with_reducible rfl)
      try simp only [Act.put, List.setIfInBounds_toArray, List.set_cons_zero, List.set_cons_succ]
      refine wpG_take (i := 27) (oi := { dst := some 53, op := Op.pick (Operand.tmp 42) (Operand.tmp 52) (Operand.const (Value.bool false)), type := 4, pos := "law.go:113", after := #[{ on := 16, ground := Ground.data }, { on := 26, ground := Ground.data }], guard := none }) (v := ?_) rfl (by kernel_rfl) (by kernel_rfl) (by kernel_rfl) (by rfl) ?_ ?_
      rotate_left
      · intro W hW; first | (go_simp; done) | (go_simp; with_reducible rfl)
      try simp only [Act.put, List.setIfInBounds_toArray, List.set_cons_zero, List.set_cons_succ]
      refine wpG_take (i := 28) (oi := { dst := some 6, op := Op.assign (Operand.tmp 53), type := 4, pos := "law.go:113", after := #[{ on := 27, ground := Ground.data }, { on := 24, ground := Ground.chain }, { on := 0, ground := Ground.phase }, { on := 1, ground := Ground.phase }, { on := 2, ground := Ground.phase }, { on := 3, ground := Ground.phase }, { on := 4, ground := Ground.phase }, { on := 5, ground := Ground.phase }, { on := 6, ground := Ground.phase }, { on := 7, ground := Ground.phase }, { on := 8, ground := Ground.phase }, { on := 9, ground := Ground.phase }, { on := 10, ground := Ground.phase }, { on := 11, ground := Ground.phase }, { on := 12, ground := Ground.phase }, { on := 13, ground := Ground.phase }, { on := 14, ground := Ground.phase }, { on := 15, ground := Ground.phase }, { on := 16, ground := Ground.phase }, { on := 17, ground := Ground.phase }, { on := 18, ground := Ground.phase }, { on := 19, ground := Ground.phase }, { on := 20, ground := Ground.phase }, { on := 21, ground := Ground.phase }, { on := 22, ground := Ground.phase }, { on := 23, ground := Ground.phase }, { on := 24, ground := Ground.phase }, { on := 25, ground := Ground.phase }, { on := 26, ground := Ground.phase }, { on := 27, ground := Ground.phase }], guard := none }) (v := ?_) rfl (by kernel_rfl) (by kernel_rfl) (by kernel_rfl) (by rfl) ?_ ?_
      rotate_left
      · intro W hW; first | (go_simp; done) | (go_simp; with_reducible rfl)
      try simp only [Act.put, List.setIfInBounds_toArray, List.set_cons_zero, List.set_cons_succ]
      refine wpG_done (by kernel_rfl) ?_
      go_wp2
      go_ret
      exact ⟨rfl, hb8⟩
end Go.Proofs.YthajkimmnceoiaaDoor
