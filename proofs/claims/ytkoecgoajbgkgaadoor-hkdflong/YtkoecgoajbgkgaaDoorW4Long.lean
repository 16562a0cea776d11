/- What the law HkdfLong answers at every input: the walk. -/
import Derived.Test.YtkoecgoajbgkgaaDoorH04d
import Derived.Test.YtkoecgoajbgkgaaDoorRef04a
namespace Go.Proofs.YtkoecgoajbgkgaaDoor
open Go.ChangeShapes Go.WideShapes Go.ChangeAt Go.RowKit
set_option linter.unusedSimpArgs false
set_option linter.unusedVariables false

/-- The key: so many bytes, each the one ahead and 1. -/
def cntL (c : UInt8) (t : Nat) : List UInt8 := (List.range t).map fun i => c + UInt8.ofNat i
theorem cntL_length (c : UInt8) (t : Nat) : (cntL c t).length = t := by simp [cntL]
theorem cntL_next (c : UInt8) (t : Nat) : cntL c t ++ [c + UInt8.ofNat t] = cntL c (t + 1) := by
  unfold cntL
  rw [List.range_succ, List.map_append]
  rfl
theorem cnt_wrap (c : UInt8) (t : Nat) : IntKind.u8.wrap ((c.toNat : Int) + (t : Int)) = ((c + UInt8.ofNat t).toNat : Int) := by
  rw [IntKind.wrap_u8, UInt8.toNat_add, UInt8.toNat_ofNat']
  omega

set_option maxRecDepth 100000 in
set_option maxHeartbeats 2000000 in
theorem long_walk (c : UInt8) (C : Int) (hC : C = (c.toNat : Int)) (n : Int) (vb : Value) (b : List UInt8) (w : World) (hrb : Rd w vb b) (ht : Tabs w) :
    Calls Tryd.prog 6 #[.int .u8 C, .int .i64 n, vb] w fun e w' => e = .returned (.bool true) ∧ Below w.heap.size w w' := by
  subst hC
  obtain ⟨ab, cb, rfl, -, hmb, -, -⟩ := id hrb
  unfold maxLen at hmb
  by_cases hb : b.length ≤ 500
  · have d2 : decide ((500 : Int) < (b.length : Int)) = false := decide_eq_false (by omega)
    have g2 : (b.length : Int) ≤ 500 := by omega
    obtain ⟨X, hX, hXa⟩ := and_small n 31 (by decide)
    have hXa' : bits .and .i64 n 31 = (X : Int) := hXa
    obtain ⟨m, hm⟩ : ∃ m : Nat, m = 120 + X := ⟨_, rfl⟩
    have hw1 : IntKind.i64.wrap (120 + (X : Int)) = (m : Int) := by rw [IntWalk.i64_in _ (by omega)]; omega
    have hm2 : m ≤ 151 := by omega
    have HL : Hid (b.length ≤ 500) := hb
    clear hXa hb hm hX
    go_enter Tryd.func6, Tryd.ntmps6
    go_wp2_with fail
    refine (awake_any _ ht).mono ?_
    rintro e w1 ⟨rfl, hB1⟩
    have hrb1 := hrb.kept hB1
    have ht1 := ht.kept hB1
    clear hrb ht
    go_wp2
    go_loopw [8, 9] (fun v i wr => ∃ t : Nat, t ≤ m ∧ i = .int .i64 t ∧ New 5 w1 v (cntL c t) wr) (fun _ i _ => m - (intOf i).toNat)
    case atStart => exact ⟨0, Nat.zero_le _, rfl, New.start w1⟩
    case round =>
      obtain ⟨t, htk, rfl, hN⟩ := hrel
      by_cases hlt : t < m
      · have hd : decide ((t : Int) < (m : Int)) = true := decide_eq_true (by omega)
        have htI : (t : Int) < m := by omega
        have hwt : IntKind.u8.wrap (t : Int) = (t : Int) := by rw [IntKind.wrap_u8]; omega
        have hwc := cnt_wrap c t
        have HR : Hid _ := cntL_next c t
        have hlc := cntL_length c t
        generalize c + UInt8.ofNat t = q at hwc HR
        have hL : Rd (wr.alloc (.cells #[.int .u8 (q.toNat : Int)] 5)) (.slice (some ⟨wr.heap.size, 0, none⟩) 1 1) [q] := Rd.lit1 q rfl
        go_wp2_with (at_builtin; go_must (refine wpList_append_new (w := w1) rfl _ _ 22 rfl 5 Tryd.underlying22 info5 _ _ rfl (hN.alloc _) _ _ rfl hL (by simp; omega) ?_))
        intro v' w3 hN3 _
        rw [HR.out] at hN3
        clear hN hL HR
        go_wp2
        go_roundw
        case rel => exact ⟨t + 1, by omega, by go_num, hN3⟩
        case measure => simp [intOf]; omega
      · have hd : decide ((t : Int) < (m : Int)) = false := decide_eq_false (by omega)
        have htI : (m : Int) ≤ t := by omega
        obtain ⟨k, hk⟩ : ∃ k : List UInt8, k = cntL c t := ⟨_, rfl⟩
        have hkl : k.length ≤ 1000 := by rw [hk, cntL_length]; omega
        have HKL : Hid (k.length ≤ 1000) := hkl
        have hrk2 : Rd wr u8 k := by rw [hk]; exact hN.rd
        have b2 := stepB hB1 hN.2
        have ht2 := ht1.kept hN.2
        have hrb2 := hrb1.kept hN.2
        obtain ⟨ak, ck, rfl, -, -, -, -⟩ := id hrk2
        clear hN hk hB1 ht1 hrb1 hkl
        go_wp2_with fail
        refine (mac_any _ _ k b (by have := HL.out; omega) _ hrk2 hrb2 ht2).mono ?_
        rintro e w3 ⟨v3, rfl, hN3⟩
        have hR3 := hN3.rd
        have hrk3 := hrk2.kept hN3.2
        have hrb3 := hrb2.kept hN3.2
        have ht3 := ht2.kept hN3.2
        have b3 := stepB b2 hN3.2
        clear hN3 hrk2 hrb2 ht2 b2
        go_wp2_with fail
        refine wpG_begin (by kernel_rfl) ?_
        refine wpG_take (i := 0) (oi := { dst := some 34, op := Op.move (Operand.tmp 10), type := 22, pos := "law.go:79", after := #[], guard := none }) (v := ?_) rfl (by kernel_rfl) (by kernel_rfl) (by kernel_rfl) (by rfl) ?_ ?_
        rotate_left
        · intro W hW; first | (go_simp; done) | (go_simp; with_reducible rfl)
        try simp only [Act.put, List.setIfInBounds_toArray, List.set_cons_zero, List.set_cons_succ]
        refine wpG_take (i := 1) (oi := { dst := some 35, op := Op.convert 22 9 (Operand.tmp 34), type := 9, pos := "law.go:79", after := #[{ on := 0, ground := Ground.data }], guard := none }) (v := ?_) rfl (by kernel_rfl) (by kernel_rfl) (by kernel_rfl) (by rfl) ?_ ?_
        rotate_left
        · intro W hW; have hcv := convS (hR3.drew.kept hW); first | (go_simp; done) | (go_simp; with_reducible rfl)
        try simp only [Act.put, List.setIfInBounds_toArray, List.set_cons_zero, List.set_cons_succ]
        refine wpG_take (i := 2) (oi := { dst := some 36, op := Op.move (Operand.tmp 8), type := 22, pos := "law.go:79", after := #[], guard := none }) (v := ?_) rfl (by kernel_rfl) (by kernel_rfl) (by kernel_rfl) (by rfl) ?_ ?_
        rotate_left
        · intro W hW; first | (go_simp; done) | (go_simp; with_reducible rfl)
        try simp only [Act.put, List.setIfInBounds_toArray, List.set_cons_zero, List.set_cons_succ]
        refine wpG_take (i := 3) (oi := { dst := some 37, op := Op.move (Operand.tmp 2), type := 22, pos := "law.go:79", after := #[], guard := none }) (v := ?_) rfl (by kernel_rfl) (by kernel_rfl) (by kernel_rfl) (by rfl) ?_ ?_
        rotate_left
        · intro W hW; first | (go_simp; done) | (go_simp; with_reducible rfl)
        try simp only [Act.put, List.setIfInBounds_toArray, List.set_cons_zero, List.set_cons_succ]
        refine wpG_do (i := 4) (o := { dst := some 38, op := Op.call { callee := Callee.value (Operand.func 10), args := #[Operand.tmp 36, Operand.tmp 37], argTypes := #[22, 22] }, type := 22, pos := "law.go:79", after := #[{ on := 2, ground := Ground.data }, { on := 3, ground := Ground.data }], guard := none }) (by kernel_rfl) rfl (by rfl) fun K hK => ?_
        go_simp
        refine (macR_any _ _ k b (by have := HKL.out; omega) (by have := HL.out; omega) _ hrk3.drew hrb3.drew).mono ?_
        rintro e w4 ⟨v4, rfl, hR4, hB4⟩
        refine hK.out _ _ hB4 ?_
        clear hK K
        have hrk4 := hrk3.drew.kept hB4
        have hrb4 := hrb3.drew.kept hB4
        have ht4 := (ht3.kept (Below.refl _ _).drew).kept hB4
        have b4 := stepB b3.drew hB4
        have hR34 := hR3.drew.kept hB4
        try simp only [Act.put, List.setIfInBounds_toArray, List.set_cons_zero, List.set_cons_succ]
        refine wpG_take (i := 5) (oi := { dst := some 39, op := Op.convert 22 9 (Operand.tmp 38), type := 9, pos := "law.go:79", after := #[{ on := 4, ground := Ground.data }], guard := none }) (v := ?_) rfl (by kernel_rfl) (by kernel_rfl) (by kernel_rfl) (by rfl) ?_ ?_
        rotate_left
        · intro W hW; have hcv := convS (hR4.kept hW); first | (go_simp; done) | (go_simp; with_reducible rfl)
        try simp only [Act.put, List.setIfInBounds_toArray, List.set_cons_zero, List.set_cons_succ]
        refine wpG_take (i := 6) (oi := { dst := some 40, op := Op.binOp BinOp.neq 9 (Operand.tmp 35) (Operand.tmp 39) 9, type := 4, pos := "law.go:79", after := #[{ on := 1, ground := Ground.data }, { on := 5, ground := Ground.data }], guard := none }) (v := ?_) rfl (by kernel_rfl) (by kernel_rfl) (by kernel_rfl) (by rfl) ?_ ?_
        rotate_left
        · intro W hW; first | (go_simp; done) | (go_simp; with_reducible rfl)
        try simp only [Act.put, List.setIfInBounds_toArray, List.set_cons_zero, List.set_cons_succ]
        refine wpG_done (by kernel_rfl) ?_
        clear hrk3 hrb3 ht3 b3 hR3 hR4 hB4
        by_cases hks : k.length ≤ 136
        · have e1 : decide ((k.length : Int) ≤ 136) = true := decide_eq_true (by omega)
          have g3 : (k.length : Int) ≤ 136 := by omega
          go_wp2_with fail
          refine wpG_begin (by kernel_rfl) ?_
          refine wpG_take (i := 0) (oi := { dst := some 41, op := Op.move (Operand.tmp 8), type := 22, pos := "law.go:82", after := #[], guard := none }) (v := ?_) rfl (by kernel_rfl) (by kernel_rfl) (by kernel_rfl) (by rfl) ?_ ?_
          rotate_left
          · intro W hW; first | (go_simp; done) | (go_simp; with_reducible rfl)
          try simp only [Act.put, List.setIfInBounds_toArray, List.set_cons_zero, List.set_cons_succ]
          refine wpG_take (i := 1) (oi := { dst := some 42, op := Op.call { callee := Callee.builtin Builtin.len, args := #[Operand.tmp 41], argTypes := #[22] }, type := 3, pos := "law.go:82", after := #[{ on := 0, ground := Ground.data }], guard := none }) (v := ?_) rfl (by kernel_rfl) (by kernel_rfl) (by kernel_rfl) (by rfl) ?_ ?_
          rotate_left
          · intro W hW; first | (go_simp; done) | (go_simp; with_reducible rfl)
          try simp only [Act.put, List.setIfInBounds_toArray, List.set_cons_zero, List.set_cons_succ]
          refine wpG_take (i := 2) (oi := { dst := some 43, op := Op.binOp BinOp.leq 3 (Operand.tmp 42) (Operand.const (Value.int IntKind.i64 136)) 3, type := 4, pos := "law.go:82", after := #[{ on := 1, ground := Ground.data }], guard := none }) (v := ?_) rfl (by kernel_rfl) (by kernel_rfl) (by kernel_rfl) (by rfl) ?_ ?_
          rotate_left
          · intro W hW; first | (go_simp; done) | (go_simp; with_reducible rfl)
          try simp only [Act.put, List.setIfInBounds_toArray, List.set_cons_zero, List.set_cons_succ]
          refine wpG_take (i := 3) (oi := { dst := some 44, op := Op.move (Operand.tmp 43), type := 4, pos := "law.go:82", after := #[{ on := 2, ground := Ground.data }], guard := none }) (v := ?_) rfl (by kernel_rfl) (by kernel_rfl) (by kernel_rfl) (by rfl) ?_ ?_
          rotate_left
          · intro W hW; first | (go_simp; done) | (go_simp; with_reducible rfl)
          try simp only [Act.put, List.setIfInBounds_toArray, List.set_cons_zero, List.set_cons_succ]
          refine wpG_skip (i := 4) (oi := { dst := some 45, op := Op.move (Operand.tmp 10), type := 22, pos := "law.go:82", after := #[{ on := 3, ground := Ground.guard }], guard := some (3, false) }) rfl (by kernel_rfl) (by kernel_rfl) (by kernel_rfl) (by rfl) ?_
          try simp only [Act.put, List.setIfInBounds_toArray, List.set_cons_zero, List.set_cons_succ]
          refine wpG_skip (i := 5) (oi := { dst := some 46, op := Op.convert 22 9 (Operand.tmp 45), type := 9, pos := "law.go:82", after := #[{ on := 4, ground := Ground.data }, { on := 3, ground := Ground.guard }], guard := some (3, false) }) rfl (by kernel_rfl) (by kernel_rfl) (by kernel_rfl) (by rfl) ?_
          try simp only [Act.put, List.setIfInBounds_toArray, List.set_cons_zero, List.set_cons_succ]
          refine wpG_skip (i := 6) (oi := { dst := some 47, op := Op.move (Operand.tmp 8), type := 22, pos := "law.go:82", after := #[{ on := 3, ground := Ground.guard }], guard := some (3, false) }) rfl (by kernel_rfl) (by kernel_rfl) (by kernel_rfl) (by rfl) ?_
          try simp only [Act.put, List.setIfInBounds_toArray, List.set_cons_zero, List.set_cons_succ]
          refine wpG_skip (i := 7) (oi := { dst := some 48, op := Op.call { callee := Callee.value (Operand.func 14), args := #[Operand.tmp 47], argTypes := #[22] }, type := 22, pos := "law.go:82", after := #[{ on := 6, ground := Ground.data }, { on := 3, ground := Ground.chain }, { on := 3, ground := Ground.guard }], guard := some (3, false) }) rfl (by kernel_rfl) (by kernel_rfl) (by kernel_rfl) (by rfl) ?_
          try simp only [Act.put, List.setIfInBounds_toArray, List.set_cons_zero, List.set_cons_succ]
          refine wpG_skip (i := 8) (oi := { dst := some 49, op := Op.move (Operand.tmp 2), type := 22, pos := "law.go:82", after := #[{ on := 3, ground := Ground.guard }], guard := some (3, false) }) rfl (by kernel_rfl) (by kernel_rfl) (by kernel_rfl) (by rfl) ?_
          try simp only [Act.put, List.setIfInBounds_toArray, List.set_cons_zero, List.set_cons_succ]
          refine wpG_skip (i := 9) (oi := { dst := some 50, op := Op.call { callee := Callee.value (Operand.func 9), args := #[Operand.tmp 48, Operand.tmp 49], argTypes := #[22, 22] }, type := 22, pos := "law.go:82", after := #[{ on := 7, ground := Ground.data }, { on := 8, ground := Ground.data }, { on := 7, ground := Ground.chain }, { on := 3, ground := Ground.guard }], guard := some (3, false) }) rfl (by kernel_rfl) (by kernel_rfl) (by kernel_rfl) (by rfl) ?_
          try simp only [Act.put, List.setIfInBounds_toArray, List.set_cons_zero, List.set_cons_succ]
          refine wpG_skip (i := 10) (oi := { dst := some 51, op := Op.convert 22 9 (Operand.tmp 50), type := 9, pos := "law.go:82", after := #[{ on := 9, ground := Ground.data }, { on := 3, ground := Ground.guard }], guard := some (3, false) }) rfl (by kernel_rfl) (by kernel_rfl) (by kernel_rfl) (by rfl) ?_
          try simp only [Act.put, List.setIfInBounds_toArray, List.set_cons_zero, List.set_cons_succ]
          refine wpG_skip (i := 11) (oi := { dst := some 52, op := Op.binOp BinOp.eql 9 (Operand.tmp 46) (Operand.tmp 51) 9, type := 4, pos := "law.go:82", after := #[{ on := 5, ground := Ground.data }, { on := 10, ground := Ground.data }, { on := 3, ground := Ground.guard }], guard := some (3, false) }) rfl (by kernel_rfl) (by kernel_rfl) (by kernel_rfl) (by rfl) ?_
          try simp only [Act.put, List.setIfInBounds_toArray, List.set_cons_zero, List.set_cons_succ]
          refine wpG_take (i := 12) (oi := { dst := some 53, op := Op.pick (Operand.tmp 44) (Operand.const (Value.bool true)) (Operand.tmp 52), type := 4, pos := "law.go:82", after := #[{ on := 3, ground := Ground.data }, { on := 11, ground := Ground.data }], guard := none }) (v := ?_) rfl (by kernel_rfl) (by kernel_rfl) (by kernel_rfl) (by rfl) ?_ ?_
          rotate_left
          · intro W hW; first | (go_simp; done) | (go_simp; with_reducible rfl)
          try simp only [Act.put, List.setIfInBounds_toArray, List.set_cons_zero, List.set_cons_succ]
          refine wpG_take (i := 13) (oi := { dst := some 6, op := Op.assign (Operand.tmp 53), type := 4, pos := "law.go:82", after := #[{ on := 12, ground := Ground.data }, { on := 9, ground := Ground.chain }, { on := 0, ground := Ground.phase }, { on := 1, ground := Ground.phase }, { on := 2, ground := Ground.phase }, { on := 3, ground := Ground.phase }, { on := 4, ground := Ground.phase }, { on := 5, ground := Ground.phase }, { on := 6, ground := Ground.phase }, { on := 7, ground := Ground.phase }, { on := 8, ground := Ground.phase }, { on := 9, ground := Ground.phase }, { on := 10, ground := Ground.phase }, { on := 11, ground := Ground.phase }, { on := 12, ground := Ground.phase }], guard := none }) (v := ?_) rfl (by kernel_rfl) (by kernel_rfl) (by kernel_rfl) (by rfl) ?_ ?_
          rotate_left
          · intro W hW; first | (go_simp; done) | (go_simp; with_reducible rfl)
          try simp only [Act.put, List.setIfInBounds_toArray, List.set_cons_zero, List.set_cons_succ]
          refine wpG_done (by kernel_rfl) ?_
          go_wp2
          go_ret
          exact ⟨rfl, b4.drew⟩
        · have e1 : decide ((k.length : Int) ≤ 136) = false := decide_eq_false (by omega)
          have g3 : (136 : Int) < (k.length : Int) := by omega
          have HE : Hid _ := mcF_long k b (by omega)
          go_wp2_with fail
          refine wpG_begin (by kernel_rfl) ?_
          refine wpG_take (i := 0) (oi := { dst := some 41, op := Op.move (Operand.tmp 8), type := 22, pos := "law.go:82", after := #[], guard := none }) (v := ?_) rfl (by kernel_rfl) (by kernel_rfl) (by kernel_rfl) (by rfl) ?_ ?_
          rotate_left
          · intro W hW; first | (go_simp; done) | (go_simp; with_reducible rfl)
          try simp only [Act.put, List.setIfInBounds_toArray, List.set_cons_zero, List.set_cons_succ]
          refine wpG_take (i := 1) (oi := { dst := some 42, op := Op.call { callee := Callee.builtin Builtin.len, args := #[Operand.tmp 41], argTypes := #[22] }, type := 3, pos := "law.go:82", after := #[{ on := 0, ground := Ground.data }], guard := none }) (v := ?_) rfl (by kernel_rfl) (by kernel_rfl) (by kernel_rfl) (by rfl) ?_ ?_
          rotate_left
          · intro W hW; first | (go_simp; done) | (go_simp; with_reducible rfl)
          try simp only [Act.put, List.setIfInBounds_toArray, List.set_cons_zero, List.set_cons_succ]
          refine wpG_take (i := 2) (oi := { dst := some 43, op := Op.binOp BinOp.leq 3 (Operand.tmp 42) (Operand.const (Value.int IntKind.i64 136)) 3, type := 4, pos := "law.go:82", after := #[{ on := 1, ground := Ground.data }], guard := none }) (v := ?_) rfl (by kernel_rfl) (by kernel_rfl) (by kernel_rfl) (by rfl) ?_ ?_
          rotate_left
          · intro W hW; first | (go_simp; done) | (go_simp; with_reducible rfl)
          try simp only [Act.put, List.setIfInBounds_toArray, List.set_cons_zero, List.set_cons_succ]
          refine wpG_take (i := 3) (oi := { dst := some 44, op := Op.move (Operand.tmp 43), type := 4, pos := "law.go:82", after := #[{ on := 2, ground := Ground.data }], guard := none }) (v := ?_) rfl (by kernel_rfl) (by kernel_rfl) (by kernel_rfl) (by rfl) ?_ ?_
          rotate_left
          · intro W hW; first | (go_simp; done) | (go_simp; with_reducible rfl)
          try simp only [Act.put, List.setIfInBounds_toArray, List.set_cons_zero, List.set_cons_succ]
          refine wpG_take (i := 4) (oi := { dst := some 45, op := Op.move (Operand.tmp 10), type := 22, pos := "law.go:82", after := #[{ on := 3, ground := Ground.guard }], guard := some (3, false) }) (v := ?_) rfl (by kernel_rfl) (by kernel_rfl) (by kernel_rfl) (by rfl) ?_ ?_
          rotate_left
          · intro W hW; first | (go_simp; done) | (go_simp; with_reducible rfl)
          try simp only [Act.put, List.setIfInBounds_toArray, List.set_cons_zero, List.set_cons_succ]
          refine wpG_take (i := 5) (oi := { dst := some 46, op := Op.convert 22 9 (Operand.tmp 45), type := 9, pos := "law.go:82", after := #[{ on := 4, ground := Ground.data }, { on := 3, ground := Ground.guard }], guard := some (3, false) }) (v := ?_) rfl (by kernel_rfl) (by kernel_rfl) (by kernel_rfl) (by rfl) ?_ ?_
          rotate_left
          · intro W hW; have hcv := convS (hR34.drew.kept hW); first | (go_simp; done) | (go_simp; with_reducible rfl)
          try simp only [Act.put, List.setIfInBounds_toArray, List.set_cons_zero, List.set_cons_succ]
          refine wpG_take (i := 6) (oi := { dst := some 47, op := Op.move (Operand.tmp 8), type := 22, pos := "law.go:82", after := #[{ on := 3, ground := Ground.guard }], guard := some (3, false) }) (v := ?_) rfl (by kernel_rfl) (by kernel_rfl) (by kernel_rfl) (by rfl) ?_ ?_
          rotate_left
          · intro W hW; first | (go_simp; done) | (go_simp; with_reducible rfl)
          try simp only [Act.put, List.setIfInBounds_toArray, List.set_cons_zero, List.set_cons_succ]
          refine wpG_take (i := 8) (oi := { dst := some 49, op := Op.move (Operand.tmp 2), type := 22, pos := "law.go:82", after := #[{ on := 3, ground := Ground.guard }], guard := some (3, false) }) (v := ?_) rfl (by kernel_rfl) (by kernel_rfl) (by kernel_rfl) (by rfl) ?_ ?_
          rotate_left
          · intro W hW; first | (go_simp; done) | (go_simp; with_reducible rfl)
          try simp only [Act.put, List.setIfInBounds_toArray, List.set_cons_zero, List.set_cons_succ]
          refine wpG_do (i := 7) (o := { dst := some 48, op := Op.call { callee := Callee.value (Operand.func 14), args := #[Operand.tmp 47], argTypes := #[22] }, type := 22, pos := "law.go:82", after := #[{ on := 6, ground := Ground.data }, { on := 3, ground := Ground.chain }, { on := 3, ground := Ground.guard }], guard := some (3, false) }) (by kernel_rfl) rfl (by rfl) fun K hK => ?_
          go_simp
          refine (sum256_any _ k _ hrk4.drew (ht4.kept (Below.refl _ _).drew)).mono ?_
          rintro e w5 ⟨v5, rfl, hN5⟩
          refine hK.out _ _ hN5.2 ?_
          clear hK K
          have hR5 : Rd w5 v5 (s2L k) := hN5.rd
          have hrb5 := hrb4.drew.kept hN5.2
          have ht5 := (ht4.kept (Below.refl _ _).drew).kept hN5.2
          have b5 := stepB b4.drew hN5.2
          try simp only [Act.put, List.setIfInBounds_toArray, List.set_cons_zero, List.set_cons_succ]
          refine wpG_do (i := 9) (o := { dst := some 50, op := Op.call { callee := Callee.value (Operand.func 9), args := #[Operand.tmp 48, Operand.tmp 49], argTypes := #[22, 22] }, type := 22, pos := "law.go:82", after := #[{ on := 7, ground := Ground.data }, { on := 8, ground := Ground.data }, { on := 7, ground := Ground.chain }, { on := 3, ground := Ground.guard }], guard := some (3, false) }) (by kernel_rfl) rfl (by rfl) fun K hK => ?_
          go_simp
          refine (mac_any _ _ (s2L k) b (by have := HL.out; omega) _ hR5 hrb5 ht5).mono ?_
          rintro e w6 ⟨v6, rfl, hN6⟩
          rw [← HE.out] at hN6
          refine hK.out _ _ hN6.2 ?_
          clear hK K
          have b6 := stepB b5 hN6.2
          have hR6 := hN6.rd
          try simp only [Act.put, List.setIfInBounds_toArray, List.set_cons_zero, List.set_cons_succ]
          refine wpG_take (i := 10) (oi := { dst := some 51, op := Op.convert 22 9 (Operand.tmp 50), type := 9, pos := "law.go:82", after := #[{ on := 9, ground := Ground.data }, { on := 3, ground := Ground.guard }], guard := some (3, false) }) (v := ?_) rfl (by kernel_rfl) (by kernel_rfl) (by kernel_rfl) (by rfl) ?_ ?_
          rotate_left
          · intro W hW; have hcv := convS (hR6.kept hW); first | (go_simp; done) | (go_simp; with_reducible rfl)
          try simp only [Act.put, List.setIfInBounds_toArray, List.set_cons_zero, List.set_cons_succ]
          refine wpG_take (i := 11) (oi := { dst := some 52, op := Op.binOp BinOp.eql 9 (Operand.tmp 46) (Operand.tmp 51) 9, type := 4, pos := "law.go:82", after := #[{ on := 5, ground := Ground.data }, { on := 10, ground := Ground.data }, { on := 3, ground := Ground.guard }], guard := some (3, false) }) (v := ?_) rfl (by kernel_rfl) (by kernel_rfl) (by kernel_rfl) (by rfl) ?_ ?_
          rotate_left
          · intro W hW; first | (go_simp; done) | (go_simp; with_reducible rfl)
          try simp only [Act.put, List.setIfInBounds_toArray, List.set_cons_zero, List.set_cons_succ]
          refine wpG_take (i := 12) (oi := { dst := some 53, op := Op.pick (Operand.tmp 44) (Operand.const (Value.bool true)) (Operand.tmp 52), type := 4, pos := "law.go:82", after := #[{ on := 3, ground := Ground.data }, { on := 11, ground := Ground.data }], guard := none }) (v := ?_) rfl (by kernel_rfl) (by kernel_rfl) (by kernel_rfl) (by rfl) ?_ ?_
          rotate_left
          · intro W hW; first | (go_simp; done) | (go_simp; with_reducible rfl)
          try simp only [Act.put, List.setIfInBounds_toArray, List.set_cons_zero, List.set_cons_succ]
          refine wpG_take (i := 13) (oi := { dst := some 6, op := Op.assign (Operand.tmp 53), type := 4, pos := "law.go:82", after := #[{ on := 12, ground := Ground.data }, { on := 9, ground := Ground.chain }, { on := 0, ground := Ground.phase }, { on := 1, ground := Ground.phase }, { on := 2, ground := Ground.phase }, { on := 3, ground := Ground.phase }, { on := 4, ground := Ground.phase }, { on := 5, ground := Ground.phase }, { on := 6, ground := Ground.phase }, { on := 7, ground := Ground.phase }, { on := 8, ground := Ground.phase }, { on := 9, ground := Ground.phase }, { on := 10, ground := Ground.phase }, { on := 11, ground := Ground.phase }, { on := 12, ground := Ground.phase }], guard := none }) (v := ?_) rfl (by kernel_rfl) (by kernel_rfl) (by kernel_rfl) (by rfl) ?_ ?_
          rotate_left
          · intro W hW; first | (go_simp; done) | (go_simp; with_reducible rfl)
          try simp only [Act.put, List.setIfInBounds_toArray, List.set_cons_zero, List.set_cons_succ]
          refine wpG_done (by kernel_rfl) ?_
          go_wp2
          go_ret
          exact ⟨rfl, b6⟩
  · have d2 : decide ((500 : Int) < (b.length : Int)) = true := decide_eq_true (by omega)
    have g2 : (500 : Int) < (b.length : Int) := by omega
    go_enter Tryd.func6, Tryd.ntmps6
    go_wp2_with fail
    refine (awake_any _ ht).mono ?_
    rintro e w1 ⟨rfl, hB1⟩
    go_wp2
    go_ret
    exact ⟨rfl, hB1⟩
end Go.Proofs.YtkoecgoajbgkgaaDoor
