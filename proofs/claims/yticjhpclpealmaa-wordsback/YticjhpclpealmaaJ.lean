/- The walk of the statement that what is stored is loaded and what is laid over twice is the same, out of the contracts. -/
import Derived.Test.YticjhpclpealmaaF
import Derived.Test.YticjhpclpealmaaReg
namespace Go.Proofs.Yticjhpclpealmaa
open Go.ChangeShapes Go.WideShapes Go.ChangeAt Go.RowKit
set_option linter.unusedSimpArgs false
set_option linter.unusedVariables false

theorem take8_stB (x k : Nat) (hk : k ≤ 8) : ((List.range k).map (stB x)).take 8 = (List.range k).map (stB x) := List.take_of_length_le (by simp; exact hk)
theorem load_store (v : Value) (x k y : Nat) (hk : k ≤ 8) (hy : y = x % 256 ^ k) (w : World) (hr : Rd w v ((List.range k).map (stB x))) :
    Calls Try.prog 10 #[v] w fun e w' => e = .returned (.int .u64 (y : Int)) ∧ w' = w := by
  refine (load_any v _ w hr).mono fun e w' h => ?_
  rw [take8_stB x k hk, leN_stB, ← hy] at h
  exact h
theorem equal_same (va vb : Value) (la lb : List UInt8) (hab : la = lb) (w : World) (ha : Rd w va la) (hb : Rd w vb lb) :
    Calls Try.prog 17 #[va, vb] w fun e w' => e = .returned (.bool true) ∧ Below w.heap.size w w' := by
  refine (equal_any va vb la lb w ha hb).mono fun e w' h => ?_
  rw [decide_eq_true hab] at h
  exact h
theorem and_low (x : Nat) (hx : x < 18446744073709551616) : bits .and .u64 (x : Int) 4294967295 = ((x % 4294967296 : Nat) : Int) := by
  have h := u64_and_nat x 4294967295 hx (by decide)
  rw [show ((4294967295 : Nat) : Int) = 4294967295 from rfl] at h
  rw [h]
  congr 1
  exact Nat.and_two_pow_sub_one_eq_mod x 32

theorem slice0 (a : Option Addr) (c : Nat) : (if c = 0 then a else a.map (fun x => x.add 0)) = a := by
  cases a with
  | none => simp
  | some x => simp [Addr.add]
set_option maxHeartbeats 4000000 in
theorem back_walk (x : Nat) (hx : x < 18446744073709551616) (va vb : Value) (la lb : List UInt8) (w : World) (hra : Rd w va la) (hrb : Rd w vb lb) :
    Calls Try.prog 6 #[.int .u64 (x : Int), va, vb] w fun e w' => e = .returned (.bool true) ∧ Below w.heap.size w w' := by
  obtain ⟨aa, capa, ea, ha2, ha3, ha4, _⟩ := id hra
  obtain ⟨ab, capb, eb, hb2, hb3, _, _⟩ := id hrb
  unfold maxLen at ha3 hb3
  have hcase : (2000 < (la.length : Int)) ∨ ((la.length : Int) ≤ 2000 ∧ 2000 < (lb.length : Int)) ∨ ((la.length : Int) ≤ 2000 ∧ (lb.length : Int) ≤ 2000 ∧ la.length = lb.length) ∨ ((la.length : Int) ≤ 2000 ∧ (lb.length : Int) ≤ 2000 ∧ (la.length : Int) < lb.length) ∨ ((la.length : Int) ≤ 2000 ∧ (lb.length : Int) ≤ 2000 ∧ (lb.length : Int) < la.length) := by omega
  subst ea eb
  have Hra : Hid (Rd w (.slice aa la.length capa) la) := hra
  have Hrb : Hid (Rd w (.slice ab lb.length capb) lb) := hrb
  clear hra hrb
  rcases hcase with h1 | ⟨h1, h2⟩ | ⟨h1, h2, h3⟩ | ⟨h1, h2, h3⟩ | ⟨h1, h2, h3⟩
  · go_enter Try.func6, Try.ntmps6
    go_wp2_with fail
    refine (awake_any _).mono ?_
    rintro e w1 ⟨rfl, hB1⟩
    go_wp2
    go_ret
    exact ⟨rfl, hB1⟩
  · go_enter Try.func6, Try.ntmps6
    go_wp2_with fail
    refine (awake_any _).mono ?_
    rintro e w1 ⟨rfl, hB1⟩
    go_wp2
    go_ret
    exact ⟨rfl, hB1⟩
  · go_enter Try.func6, Try.ntmps6
    go_wp2_with fail
    refine (awake_any _).mono ?_
    rintro e w1 ⟨rfl, hB1⟩
    have hra1 := Hra.out.kept hB1
    have hrb1 := Hrb.out.kept hB1
    have e1 : ((la.length : Int) == (lb.length : Int)) = true := by simp; omega
    have H3 : Hid (la.length = lb.length) := h3
    have h3a : (la.length : Int) ≤ lb.length := by omega
    clear h3
    obtain ⟨qb, hqb⟩ : ∃ b, decide (la = lb) = b := ⟨_, rfl⟩
    have HQ : Hid (decide (la = lb) = qb) := hqb
    clear hqb
    go_wp2_with fail
    refine (xor_any _ _ la lb _ hra1 hrb1 (by omega)).mono ?_
    rintro e w2 ⟨v8, rfl, hN8⟩
    have hra2 := hra1.kept hN8.2
    have hrb2 := hrb1.kept hN8.2
    have hx2 := hN8.rd
    have hB2 := bstep hB1 hN8.2
    clear hB1 hN8 hra1 hrb1
    go_wp2_with fail
    refine wpG_begin (by kernel_rfl) ?_
    refine wpG_take (i := 0) (oi := { dst := some 29, op := Op.move (Operand.tmp 0), type := 23, pos := "law.go:89", after := #[], guard := none }) (v := ?_) rfl (by kernel_rfl) (by kernel_rfl) (by kernel_rfl) (by rfl) ?_ ?_
    rotate_left
    · intro W hW; first | (go_simp; done) | (go_simp; with_reducible rfl)
    try simp only [Act.put, List.setIfInBounds_toArray, List.set_cons_zero, List.set_cons_succ]
    refine wpG_take (i := 3) (oi := { dst := some 32, op := Op.move (Operand.tmp 0), type := 23, pos := "law.go:89", after := #[], guard := none }) (v := ?_) rfl (by kernel_rfl) (by kernel_rfl) (by kernel_rfl) (by rfl) ?_ ?_
    rotate_left
    · intro W hW; first | (go_simp; done) | (go_simp; with_reducible rfl)
    try simp only [Act.put, List.setIfInBounds_toArray, List.set_cons_zero, List.set_cons_succ]
    refine wpG_do (i := 1) (o := { dst := some 30, op := Op.call { callee := Callee.value (Operand.func 12), args := #[Operand.tmp 29, Operand.const (Value.int IntKind.i64 8)], argTypes := #[23, 3] }, type := 22, pos := "law.go:89", after := #[{ on := 0, ground := Ground.data }], guard := none }) (by kernel_rfl) rfl (by rfl) fun K hK => ?_
    go_simp
    refine (store_k x 8 8 (by omega) (by omega) _).mono ?_
    rintro e w3 ⟨v3, rfl, hN3⟩
    refine hK.out _ _ hN3.2 ?_
    clear hK K
    have hB3 : Below w2.heap.size w2 w3 := bstep (Below.refl _ _).drew hN3.2
    try simp only [Act.put, List.setIfInBounds_toArray, List.set_cons_zero, List.set_cons_succ]
    refine wpG_do (i := 2) (o := { dst := some 31, op := Op.call { callee := Callee.value (Operand.func 10), args := #[Operand.tmp 30], argTypes := #[22] }, type := 23, pos := "law.go:89", after := #[{ on := 1, ground := Ground.data }, { on := 1, ground := Ground.chain }], guard := none }) (by kernel_rfl) rfl (by rfl) fun K hK => ?_
    go_simp
    refine (load_store _ x 8 x (by omega) (by omega) _ hN3.rd).mono ?_
    rintro e w4 ⟨rfl, rfl⟩
    refine hK.out _ _ (Below.refl _ _) ?_
    clear hK K
    clear hN3
    try simp only [Act.put, List.setIfInBounds_toArray, List.set_cons_zero, List.set_cons_succ]
    refine wpG_take (i := 4) (oi := { dst := some 33, op := Op.binOp BinOp.eql 23 (Operand.tmp 31) (Operand.tmp 32) 23, type := 4, pos := "law.go:89", after := #[{ on := 2, ground := Ground.data }, { on := 3, ground := Ground.data }], guard := none }) (v := ?_) rfl (by kernel_rfl) (by kernel_rfl) (by kernel_rfl) (by rfl) ?_ ?_
    rotate_left
    · intro W hW; first | (go_simp; done) | (go_simp; with_reducible rfl)
    try simp only [Act.put, List.setIfInBounds_toArray, List.set_cons_zero, List.set_cons_succ]
    refine wpG_take (i := 5) (oi := { dst := some 34, op := Op.move (Operand.tmp 33), type := 4, pos := "law.go:89", after := #[{ on := 4, ground := Ground.data }, { on := 2, ground := Ground.chain }], guard := none }) (v := ?_) rfl (by kernel_rfl) (by kernel_rfl) (by kernel_rfl) (by rfl) ?_ ?_
    rotate_left
    · intro W hW; first | (go_simp; done) | (go_simp; with_reducible rfl)
    try simp only [Act.put, List.setIfInBounds_toArray, List.set_cons_zero, List.set_cons_succ]
    refine wpG_take (i := 6) (oi := { dst := some 35, op := Op.move (Operand.tmp 0), type := 23, pos := "law.go:89", after := #[{ on := 5, ground := Ground.guard }], guard := some (5, true) }) (v := ?_) rfl (by kernel_rfl) (by kernel_rfl) (by kernel_rfl) (by rfl) ?_ ?_
    rotate_left
    · intro W hW; first | (go_simp; done) | (go_simp; with_reducible rfl)
    try simp only [Act.put, List.setIfInBounds_toArray, List.set_cons_zero, List.set_cons_succ]
    refine wpG_take (i := 9) (oi := { dst := some 38, op := Op.move (Operand.tmp 0), type := 23, pos := "law.go:89", after := #[{ on := 5, ground := Ground.guard }], guard := some (5, true) }) (v := ?_) rfl (by kernel_rfl) (by kernel_rfl) (by kernel_rfl) (by rfl) ?_ ?_
    rotate_left
    · intro W hW; first | (go_simp; done) | (go_simp; with_reducible rfl)
    try simp only [Act.put, List.setIfInBounds_toArray, List.set_cons_zero, List.set_cons_succ]
    refine wpG_take (i := 10) (oi := { dst := some 39, op := Op.binOp BinOp.and 23 (Operand.tmp 38) (Operand.const (Value.int IntKind.u64 4294967295)) 23, type := 23, pos := "law.go:89", after := #[{ on := 9, ground := Ground.data }, { on := 5, ground := Ground.guard }], guard := some (5, true) }) (v := ?_) rfl (by kernel_rfl) (by kernel_rfl) (by kernel_rfl) (by rfl) ?_ ?_
    rotate_left
    · intro W hW; have hand := and_low x hx; first | (go_simp; done) | (go_simp; with_reducible rfl)
    try simp only [Act.put, List.setIfInBounds_toArray, List.set_cons_zero, List.set_cons_succ]
    refine wpG_do (i := 7) (o := { dst := some 36, op := Op.call { callee := Callee.value (Operand.func 12), args := #[Operand.tmp 35, Operand.const (Value.int IntKind.i64 4)], argTypes := #[23, 3] }, type := 22, pos := "law.go:89", after := #[{ on := 6, ground := Ground.data }, { on := 5, ground := Ground.chain }, { on := 5, ground := Ground.guard }], guard := some (5, true) }) (by kernel_rfl) rfl (by rfl) fun K hK => ?_
    go_simp
    refine (store_k x 4 4 (by omega) (by omega) _).mono ?_
    rintro e w5 ⟨v5, rfl, hN5⟩
    refine hK.out _ _ hN5.2 ?_
    clear hK K
    have hB5 : Below w2.heap.size w2 w5 := bstep hB3 hN5.2
    try simp only [Act.put, List.setIfInBounds_toArray, List.set_cons_zero, List.set_cons_succ]
    refine wpG_do (i := 8) (o := { dst := some 37, op := Op.call { callee := Callee.value (Operand.func 10), args := #[Operand.tmp 36], argTypes := #[22] }, type := 23, pos := "law.go:89", after := #[{ on := 7, ground := Ground.data }, { on := 7, ground := Ground.chain }, { on := 5, ground := Ground.guard }], guard := some (5, true) }) (by kernel_rfl) rfl (by rfl) fun K hK => ?_
    go_simp
    refine (load_store _ x 4 (x % 4294967296) (by omega) (by omega) _ hN5.rd).mono ?_
    rintro e w6 ⟨rfl, rfl⟩
    refine hK.out _ _ (Below.refl _ _) ?_
    clear hK K
    clear hN5 hB3
    try simp only [Act.put, List.setIfInBounds_toArray, List.set_cons_zero, List.set_cons_succ]
    refine wpG_take (i := 11) (oi := { dst := some 40, op := Op.binOp BinOp.eql 23 (Operand.tmp 37) (Operand.tmp 39) 23, type := 4, pos := "law.go:89", after := #[{ on := 8, ground := Ground.data }, { on := 10, ground := Ground.data }, { on := 5, ground := Ground.guard }], guard := some (5, true) }) (v := ?_) rfl (by kernel_rfl) (by kernel_rfl) (by kernel_rfl) (by rfl) ?_ ?_
    rotate_left
    · intro W hW; first | (go_simp; done) | (go_simp; with_reducible rfl)
    try simp only [Act.put, List.setIfInBounds_toArray, List.set_cons_zero, List.set_cons_succ]
    refine wpG_take (i := 12) (oi := { dst := some 41, op := Op.pick (Operand.tmp 34) (Operand.tmp 40) (Operand.const (Value.bool false)), type := 4, pos := "law.go:89", after := #[{ on := 5, ground := Ground.data }, { on := 11, ground := Ground.data }], guard := none }) (v := ?_) rfl (by kernel_rfl) (by kernel_rfl) (by kernel_rfl) (by rfl) ?_ ?_
    rotate_left
    · intro W hW; first | (go_simp; done) | (go_simp; with_reducible rfl)
    try simp only [Act.put, List.setIfInBounds_toArray, List.set_cons_zero, List.set_cons_succ]
    refine wpG_take (i := 13) (oi := { dst := some 42, op := Op.move (Operand.tmp 41), type := 4, pos := "law.go:89", after := #[{ on := 12, ground := Ground.data }, { on := 8, ground := Ground.chain }], guard := none }) (v := ?_) rfl (by kernel_rfl) (by kernel_rfl) (by kernel_rfl) (by rfl) ?_ ?_
    rotate_left
    · intro W hW; first | (go_simp; done) | (go_simp; with_reducible rfl)
    try simp only [Act.put, List.setIfInBounds_toArray, List.set_cons_zero, List.set_cons_succ]
    refine wpG_take (i := 14) (oi := { dst := some 43, op := Op.move (Operand.tmp 8), type := 22, pos := "law.go:89", after := #[{ on := 13, ground := Ground.guard }], guard := some (13, true) }) (v := ?_) rfl (by kernel_rfl) (by kernel_rfl) (by kernel_rfl) (by rfl) ?_ ?_
    rotate_left
    · intro W hW; first | (go_simp; done) | (go_simp; with_reducible rfl)
    try simp only [Act.put, List.setIfInBounds_toArray, List.set_cons_zero, List.set_cons_succ]
    refine wpG_take (i := 15) (oi := { dst := some 44, op := Op.move (Operand.tmp 2), type := 22, pos := "law.go:89", after := #[{ on := 13, ground := Ground.guard }], guard := some (13, true) }) (v := ?_) rfl (by kernel_rfl) (by kernel_rfl) (by kernel_rfl) (by rfl) ?_ ?_
    rotate_left
    · intro W hW; first | (go_simp; done) | (go_simp; with_reducible rfl)
    try simp only [Act.put, List.setIfInBounds_toArray, List.set_cons_zero, List.set_cons_succ]
    refine wpG_take (i := 17) (oi := { dst := some 46, op := Op.move (Operand.tmp 1), type := 22, pos := "law.go:89", after := #[{ on := 13, ground := Ground.guard }], guard := some (13, true) }) (v := ?_) rfl (by kernel_rfl) (by kernel_rfl) (by kernel_rfl) (by rfl) ?_ ?_
    rotate_left
    · intro W hW; first | (go_simp; done) | (go_simp; with_reducible rfl)
    try simp only [Act.put, List.setIfInBounds_toArray, List.set_cons_zero, List.set_cons_succ]
    refine wpG_take (i := 18) (oi := { dst := some 47, op := Op.move (Operand.tmp 9), type := 3, pos := "law.go:89", after := #[{ on := 13, ground := Ground.guard }], guard := some (13, true) }) (v := ?_) rfl (by kernel_rfl) (by kernel_rfl) (by kernel_rfl) (by rfl) ?_ ?_
    rotate_left
    · intro W hW; first | (go_simp; done) | (go_simp; with_reducible rfl)
    try simp only [Act.put, List.setIfInBounds_toArray, List.set_cons_zero, List.set_cons_succ]
    refine wpG_take (i := 19) (oi := { dst := some 48, op := Op.slice 22 (Operand.tmp 46) none (some (Operand.tmp 47)) none, type := 22, pos := "law.go:89", after := #[{ on := 17, ground := Ground.data }, { on := 18, ground := Ground.data }, { on := 13, ground := Ground.guard }], guard := some (13, true) }) (v := ?_) rfl (by kernel_rfl) (by kernel_rfl) (by kernel_rfl) (by rfl) ?_ ?_
    rotate_left
    · intro W hW; have hsl : (if capa = 0 then aa else aa.map (fun x => x.add 0)) = aa := slice0 aa capa; have hlc : la.length ≤ capa := (by have := H3.out; omega); first | (go_simp; done) | (go_simp; with_reducible rfl)
    try simp only [Act.put, List.setIfInBounds_toArray, List.set_cons_zero, List.set_cons_succ]
    refine wpG_do (i := 16) (o := { dst := some 45, op := Op.call { callee := Callee.value (Operand.func 14), args := #[Operand.tmp 43, Operand.tmp 44], argTypes := #[22, 22] }, type := 22, pos := "law.go:89", after := #[{ on := 14, ground := Ground.data }, { on := 15, ground := Ground.data }, { on := 13, ground := Ground.chain }, { on := 13, ground := Ground.guard }], guard := some (13, true) }) (by kernel_rfl) rfl (by rfl) fun K hK => ?_
    go_simp
    refine (xor_any _ _ (xorL la lb) lb _ (hx2.kept hB5) (hrb2.kept hB5) (by rw [xorL_length]; omega)).mono ?_
    rintro e w7 ⟨v7, rfl, hN7⟩
    refine hK.out _ _ hN7.2 ?_
    clear hK K
    have hB7 : Below w2.heap.size w2 w7 := bstep hB5 hN7.2
    rw [xorL_twice] at hN7
    clear hB5
    try simp only [Act.put, List.setIfInBounds_toArray, List.set_cons_zero, List.set_cons_succ]
    refine wpG_do (i := 20) (o := { dst := some 49, op := Op.call { callee := Callee.value (Operand.func 17), args := #[Operand.tmp 45, Operand.tmp 48], argTypes := #[22, 22] }, type := 4, pos := "law.go:89", after := #[{ on := 16, ground := Ground.data }, { on := 19, ground := Ground.data }, { on := 16, ground := Ground.chain }, { on := 13, ground := Ground.guard }], guard := some (13, true) }) (by kernel_rfl) rfl (by rfl) fun K hK => ?_
    go_simp
    refine (equal_same _ _ _ (la.take la.length) (by have := H3.out; rw [show min la.length lb.length = la.length from (by omega)]) _ hN7.rd ((hra2.take (by have := H3.out; omega)).kept hB7)).mono ?_
    rintro e w8 ⟨rfl, hE8⟩
    refine hK.out _ _ hE8 ?_
    clear hK K
    have hB8 : Below w2.heap.size w2 w8 := bstep hB7 hE8
    clear hN7 hE8 hB7
    try simp only [Act.put, List.setIfInBounds_toArray, List.set_cons_zero, List.set_cons_succ]
    refine wpG_take (i := 21) (oi := { dst := some 50, op := Op.pick (Operand.tmp 42) (Operand.tmp 49) (Operand.const (Value.bool false)), type := 4, pos := "law.go:89", after := #[{ on := 13, ground := Ground.data }, { on := 20, ground := Ground.data }], guard := none }) (v := ?_) rfl (by kernel_rfl) (by kernel_rfl) (by kernel_rfl) (by rfl) ?_ ?_
    rotate_left
    · intro W hW; first | (go_simp; done) | (go_simp; with_reducible rfl)
    try simp only [Act.put, List.setIfInBounds_toArray, List.set_cons_zero, List.set_cons_succ]
    refine wpG_take (i := 22) (oi := { dst := some 51, op := Op.move (Operand.tmp 50), type := 4, pos := "law.go:89", after := #[{ on := 21, ground := Ground.data }, { on := 20, ground := Ground.chain }], guard := none }) (v := ?_) rfl (by kernel_rfl) (by kernel_rfl) (by kernel_rfl) (by rfl) ?_ ?_
    rotate_left
    · intro W hW; first | (go_simp; done) | (go_simp; with_reducible rfl)
    try simp only [Act.put, List.setIfInBounds_toArray, List.set_cons_zero, List.set_cons_succ]
    refine wpG_take (i := 23) (oi := { dst := some 52, op := Op.move (Operand.tmp 1), type := 22, pos := "law.go:89", after := #[{ on := 22, ground := Ground.guard }], guard := some (22, true) }) (v := ?_) rfl (by kernel_rfl) (by kernel_rfl) (by kernel_rfl) (by rfl) ?_ ?_
    rotate_left
    · intro W hW; first | (go_simp; done) | (go_simp; with_reducible rfl)
    try simp only [Act.put, List.setIfInBounds_toArray, List.set_cons_zero, List.set_cons_succ]
    refine wpG_take (i := 24) (oi := { dst := some 53, op := Op.move (Operand.tmp 2), type := 22, pos := "law.go:89", after := #[{ on := 22, ground := Ground.guard }], guard := some (22, true) }) (v := ?_) rfl (by kernel_rfl) (by kernel_rfl) (by kernel_rfl) (by rfl) ?_ ?_
    rotate_left
    · intro W hW; first | (go_simp; done) | (go_simp; with_reducible rfl)
    try simp only [Act.put, List.setIfInBounds_toArray, List.set_cons_zero, List.set_cons_succ]
    refine wpG_take (i := 26) (oi := { dst := some 55, op := Op.move (Operand.tmp 1), type := 22, pos := "law.go:89", after := #[{ on := 22, ground := Ground.guard }], guard := some (22, true) }) (v := ?_) rfl (by kernel_rfl) (by kernel_rfl) (by kernel_rfl) (by rfl) ?_ ?_
    rotate_left
    · intro W hW; first | (go_simp; done) | (go_simp; with_reducible rfl)
    try simp only [Act.put, List.setIfInBounds_toArray, List.set_cons_zero, List.set_cons_succ]
    refine wpG_take (i := 27) (oi := { dst := some 56, op := Op.call { callee := Callee.builtin Builtin.len, args := #[Operand.tmp 55], argTypes := #[22] }, type := 3, pos := "law.go:89", after := #[{ on := 26, ground := Ground.data }, { on := 22, ground := Ground.guard }], guard := some (22, true) }) (v := ?_) rfl (by kernel_rfl) (by kernel_rfl) (by kernel_rfl) (by rfl) ?_ ?_
    rotate_left
    · intro W hW; first | (go_simp; done) | (go_simp; with_reducible rfl)
    try simp only [Act.put, List.setIfInBounds_toArray, List.set_cons_zero, List.set_cons_succ]
    refine wpG_take (i := 28) (oi := { dst := some 57, op := Op.move (Operand.tmp 2), type := 22, pos := "law.go:89", after := #[{ on := 22, ground := Ground.guard }], guard := some (22, true) }) (v := ?_) rfl (by kernel_rfl) (by kernel_rfl) (by kernel_rfl) (by rfl) ?_ ?_
    rotate_left
    · intro W hW; first | (go_simp; done) | (go_simp; with_reducible rfl)
    try simp only [Act.put, List.setIfInBounds_toArray, List.set_cons_zero, List.set_cons_succ]
    refine wpG_take (i := 29) (oi := { dst := some 58, op := Op.call { callee := Callee.builtin Builtin.len, args := #[Operand.tmp 57], argTypes := #[22] }, type := 3, pos := "law.go:89", after := #[{ on := 28, ground := Ground.data }, { on := 22, ground := Ground.guard }], guard := some (22, true) }) (v := ?_) rfl (by kernel_rfl) (by kernel_rfl) (by kernel_rfl) (by rfl) ?_ ?_
    rotate_left
    · intro W hW; first | (go_simp; done) | (go_simp; with_reducible rfl)
    try simp only [Act.put, List.setIfInBounds_toArray, List.set_cons_zero, List.set_cons_succ]
    refine wpG_take (i := 30) (oi := { dst := some 59, op := Op.binOp BinOp.eql 3 (Operand.tmp 56) (Operand.tmp 58) 3, type := 4, pos := "law.go:89", after := #[{ on := 27, ground := Ground.data }, { on := 29, ground := Ground.data }, { on := 22, ground := Ground.guard }], guard := some (22, true) }) (v := ?_) rfl (by kernel_rfl) (by kernel_rfl) (by kernel_rfl) (by rfl) ?_ ?_
    rotate_left
    · intro W hW; first | (go_simp; done) | (go_simp; with_reducible rfl)
    try simp only [Act.put, List.setIfInBounds_toArray, List.set_cons_zero, List.set_cons_succ]
    refine wpG_do (i := 25) (o := { dst := some 54, op := Op.call { callee := Callee.value (Operand.func 17), args := #[Operand.tmp 52, Operand.tmp 53], argTypes := #[22, 22] }, type := 4, pos := "law.go:89", after := #[{ on := 23, ground := Ground.data }, { on := 24, ground := Ground.data }, { on := 22, ground := Ground.chain }, { on := 22, ground := Ground.guard }], guard := some (22, true) }) (by kernel_rfl) rfl (by rfl) fun K hK => ?_
    go_simp
    refine (equal_bool _ _ la lb qb HQ.out _ (hra2.kept hB8) (hrb2.kept hB8)).mono ?_
    rintro e w9 ⟨rfl, hE9⟩
    refine hK.out _ _ hE9 ?_
    clear hK K
    have hB9 : Below w2.heap.size w2 w9 := bstep hB8 hE9
    clear hE9 hB8
    try simp only [Act.put, List.setIfInBounds_toArray, List.set_cons_zero, List.set_cons_succ]
    refine wpG_take (i := 31) (oi := { dst := some 60, op := Op.move (Operand.tmp 59), type := 4, pos := "law.go:89", after := #[{ on := 30, ground := Ground.data }, { on := 25, ground := Ground.chain }, { on := 22, ground := Ground.guard }], guard := some (22, true) }) (v := ?_) rfl (by kernel_rfl) (by kernel_rfl) (by kernel_rfl) (by rfl) ?_ ?_
    rotate_left
    · intro W hW; first | (go_simp; done) | (go_simp; with_reducible rfl)
    try simp only [Act.put, List.setIfInBounds_toArray, List.set_cons_zero, List.set_cons_succ]
    refine wpG_take (i := 32) (oi := { dst := some 61, op := Op.move (Operand.tmp 8), type := 22, pos := "law.go:89", after := #[{ on := 31, ground := Ground.guard }], guard := some (31, true) }) (v := ?_) rfl (by kernel_rfl) (by kernel_rfl) (by kernel_rfl) (by rfl) ?_ ?_
    rotate_left
    · intro W hW; first | (go_simp; done) | (go_simp; with_reducible rfl)
    try simp only [Act.put, List.setIfInBounds_toArray, List.set_cons_zero, List.set_cons_succ]
    refine wpG_do (i := 33) (o := { dst := some 62, op := Op.call { callee := Callee.value (Operand.func 19), args := #[Operand.tmp 61], argTypes := #[22] }, type := 4, pos := "law.go:89", after := #[{ on := 32, ground := Ground.data }, { on := 31, ground := Ground.chain }, { on := 31, ground := Ground.guard }], guard := some (31, true) }) (by kernel_rfl) rfl (by rfl) fun K hK => ?_
    go_simp
    refine (zero_bool _ (xorL la lb) qb ((decide_eq_decide.2 (orL_xorL la lb H3.out)).trans HQ.out) _ (hx2.kept hB9)).mono ?_
    rintro e w10 ⟨rfl, rfl⟩
    refine hK.out _ _ (Below.refl _ _) ?_
    clear hK K
    try simp only [Act.put, List.setIfInBounds_toArray, List.set_cons_zero, List.set_cons_succ]
    refine wpG_take (i := 34) (oi := { dst := some 63, op := Op.pick (Operand.tmp 60) (Operand.tmp 62) (Operand.const (Value.bool false)), type := 4, pos := "law.go:89", after := #[{ on := 31, ground := Ground.data }, { on := 33, ground := Ground.data }, { on := 22, ground := Ground.guard }], guard := some (22, true) }) (v := ?_) rfl (by kernel_rfl) (by kernel_rfl) (by kernel_rfl) (by rfl) ?_ ?_
    rotate_left
    · intro W hW; first | (go_simp; done) | (go_simp; with_reducible rfl)
    try simp only [Act.put, List.setIfInBounds_toArray, List.set_cons_zero, List.set_cons_succ]
    refine wpG_take (i := 35) (oi := { dst := some 64, op := Op.binOp BinOp.eql 4 (Operand.tmp 54) (Operand.tmp 63) 4, type := 4, pos := "law.go:89", after := #[{ on := 25, ground := Ground.data }, { on := 34, ground := Ground.data }, { on := 22, ground := Ground.guard }], guard := some (22, true) }) (v := ?_) rfl (by kernel_rfl) (by kernel_rfl) (by kernel_rfl) (by rfl) ?_ ?_
    rotate_left
    · intro W hW; have hbb : ∀ b : Bool, (b == b) = true := (by intro b; cases b <;> rfl); first | (go_simp; done) | (go_simp; with_reducible rfl)
    try simp only [Act.put, List.setIfInBounds_toArray, List.set_cons_zero, List.set_cons_succ]
    refine wpG_take (i := 36) (oi := { dst := some 65, op := Op.pick (Operand.tmp 51) (Operand.tmp 64) (Operand.const (Value.bool false)), type := 4, pos := "law.go:89", after := #[{ on := 22, ground := Ground.data }, { on := 35, ground := Ground.data }], guard := none }) (v := ?_) rfl (by kernel_rfl) (by kernel_rfl) (by kernel_rfl) (by rfl) ?_ ?_
    rotate_left
    · intro W hW; first | (go_simp; done) | (go_simp; with_reducible rfl)
    try simp only [Act.put, List.setIfInBounds_toArray, List.set_cons_zero, List.set_cons_succ]
    refine wpG_take (i := 37) (oi := { dst := some 6, op := Op.assign (Operand.tmp 65), type := 4, pos := "law.go:89", after := #[{ on := 36, ground := Ground.data }, { on := 33, ground := Ground.chain }, { on := 0, ground := Ground.phase }, { on := 1, ground := Ground.phase }, { on := 2, ground := Ground.phase }, { on := 3, ground := Ground.phase }, { on := 4, ground := Ground.phase }, { on := 5, ground := Ground.phase }, { on := 6, ground := Ground.phase }, { on := 7, ground := Ground.phase }, { on := 8, ground := Ground.phase }, { on := 9, ground := Ground.phase }, { on := 10, ground := Ground.phase }, { on := 11, ground := Ground.phase }, { on := 12, ground := Ground.phase }, { on := 13, ground := Ground.phase }, { on := 14, ground := Ground.phase }, { on := 15, ground := Ground.phase }, { on := 16, ground := Ground.phase }, { on := 17, ground := Ground.phase }, { on := 18, ground := Ground.phase }, { on := 19, ground := Ground.phase }, { on := 20, ground := Ground.phase }, { on := 21, ground := Ground.phase }, { on := 22, ground := Ground.phase }, { on := 23, ground := Ground.phase }, { on := 24, ground := Ground.phase }, { on := 25, ground := Ground.phase }, { on := 26, ground := Ground.phase }, { on := 27, ground := Ground.phase }, { on := 28, ground := Ground.phase }, { on := 29, ground := Ground.phase }, { on := 30, ground := Ground.phase }, { on := 31, ground := Ground.phase }, { on := 32, ground := Ground.phase }, { on := 33, ground := Ground.phase }, { on := 34, ground := Ground.phase }, { on := 35, ground := Ground.phase }, { on := 36, ground := Ground.phase }], guard := none }) (v := ?_) rfl (by kernel_rfl) (by kernel_rfl) (by kernel_rfl) (by rfl) ?_ ?_
    rotate_left
    · intro W hW; first | (go_simp; done) | (go_simp; with_reducible rfl)
    try simp only [Act.put, List.setIfInBounds_toArray, List.set_cons_zero, List.set_cons_succ]
    refine wpG_done (by kernel_rfl) ?_
    go_wp2
    go_ret
    exact ⟨rfl, bstep hB2 hB9⟩
  · go_enter Try.func6, Try.ntmps6
    go_wp2_with fail
    refine (awake_any _).mono ?_
    rintro e w1 ⟨rfl, hB1⟩
    have hra1 := Hra.out.kept hB1
    have hrb1 := Hrb.out.kept hB1
    have e1 : ((la.length : Int) == (lb.length : Int)) = false := by simp; omega
    have hne : decide (la = lb) = false := decide_eq_false (by rintro rfl; omega)
    have HNE : Hid _ := hne
    clear hne
    go_wp2_with fail
    refine (xor_any _ _ la lb _ hra1 hrb1 (by omega)).mono ?_
    rintro e w2 ⟨v8, rfl, hN8⟩
    have hra2 := hra1.kept hN8.2
    have hrb2 := hrb1.kept hN8.2
    have hx2 := hN8.rd
    have hB2 := bstep hB1 hN8.2
    clear hB1 hN8 hra1 hrb1
    go_wp2_with fail
    refine wpG_begin (by kernel_rfl) ?_
    refine wpG_take (i := 0) (oi := { dst := some 29, op := Op.move (Operand.tmp 0), type := 23, pos := "law.go:89", after := #[], guard := none }) (v := ?_) rfl (by kernel_rfl) (by kernel_rfl) (by kernel_rfl) (by rfl) ?_ ?_
    rotate_left
    · intro W hW; first | (go_simp; done) | (go_simp; with_reducible rfl)
    try simp only [Act.put, List.setIfInBounds_toArray, List.set_cons_zero, List.set_cons_succ]
    refine wpG_take (i := 3) (oi := { dst := some 32, op := Op.move (Operand.tmp 0), type := 23, pos := "law.go:89", after := #[], guard := none }) (v := ?_) rfl (by kernel_rfl) (by kernel_rfl) (by kernel_rfl) (by rfl) ?_ ?_
    rotate_left
    · intro W hW; first | (go_simp; done) | (go_simp; with_reducible rfl)
    try simp only [Act.put, List.setIfInBounds_toArray, List.set_cons_zero, List.set_cons_succ]
    refine wpG_do (i := 1) (o := { dst := some 30, op := Op.call { callee := Callee.value (Operand.func 12), args := #[Operand.tmp 29, Operand.const (Value.int IntKind.i64 8)], argTypes := #[23, 3] }, type := 22, pos := "law.go:89", after := #[{ on := 0, ground := Ground.data }], guard := none }) (by kernel_rfl) rfl (by rfl) fun K hK => ?_
    go_simp
    refine (store_k x 8 8 (by omega) (by omega) _).mono ?_
    rintro e w3 ⟨v3, rfl, hN3⟩
    refine hK.out _ _ hN3.2 ?_
    clear hK K
    have hB3 : Below w2.heap.size w2 w3 := bstep (Below.refl _ _).drew hN3.2
    try simp only [Act.put, List.setIfInBounds_toArray, List.set_cons_zero, List.set_cons_succ]
    refine wpG_do (i := 2) (o := { dst := some 31, op := Op.call { callee := Callee.value (Operand.func 10), args := #[Operand.tmp 30], argTypes := #[22] }, type := 23, pos := "law.go:89", after := #[{ on := 1, ground := Ground.data }, { on := 1, ground := Ground.chain }], guard := none }) (by kernel_rfl) rfl (by rfl) fun K hK => ?_
    go_simp
    refine (load_store _ x 8 x (by omega) (by omega) _ hN3.rd).mono ?_
    rintro e w4 ⟨rfl, rfl⟩
    refine hK.out _ _ (Below.refl _ _) ?_
    clear hK K
    clear hN3
    try simp only [Act.put, List.setIfInBounds_toArray, List.set_cons_zero, List.set_cons_succ]
    refine wpG_take (i := 4) (oi := { dst := some 33, op := Op.binOp BinOp.eql 23 (Operand.tmp 31) (Operand.tmp 32) 23, type := 4, pos := "law.go:89", after := #[{ on := 2, ground := Ground.data }, { on := 3, ground := Ground.data }], guard := none }) (v := ?_) rfl (by kernel_rfl) (by kernel_rfl) (by kernel_rfl) (by rfl) ?_ ?_
    rotate_left
    · intro W hW; first | (go_simp; done) | (go_simp; with_reducible rfl)
    try simp only [Act.put, List.setIfInBounds_toArray, List.set_cons_zero, List.set_cons_succ]
    refine wpG_take (i := 5) (oi := { dst := some 34, op := Op.move (Operand.tmp 33), type := 4, pos := "law.go:89", after := #[{ on := 4, ground := Ground.data }, { on := 2, ground := Ground.chain }], guard := none }) (v := ?_) rfl (by kernel_rfl) (by kernel_rfl) (by kernel_rfl) (by rfl) ?_ ?_
    rotate_left
    · intro W hW; first | (go_simp; done) | (go_simp; with_reducible rfl)
    try simp only [Act.put, List.setIfInBounds_toArray, List.set_cons_zero, List.set_cons_succ]
    refine wpG_take (i := 6) (oi := { dst := some 35, op := Op.move (Operand.tmp 0), type := 23, pos := "law.go:89", after := #[{ on := 5, ground := Ground.guard }], guard := some (5, true) }) (v := ?_) rfl (by kernel_rfl) (by kernel_rfl) (by kernel_rfl) (by rfl) ?_ ?_
    rotate_left
    · intro W hW; first | (go_simp; done) | (go_simp; with_reducible rfl)
    try simp only [Act.put, List.setIfInBounds_toArray, List.set_cons_zero, List.set_cons_succ]
    refine wpG_take (i := 9) (oi := { dst := some 38, op := Op.move (Operand.tmp 0), type := 23, pos := "law.go:89", after := #[{ on := 5, ground := Ground.guard }], guard := some (5, true) }) (v := ?_) rfl (by kernel_rfl) (by kernel_rfl) (by kernel_rfl) (by rfl) ?_ ?_
    rotate_left
    · intro W hW; first | (go_simp; done) | (go_simp; with_reducible rfl)
    try simp only [Act.put, List.setIfInBounds_toArray, List.set_cons_zero, List.set_cons_succ]
    refine wpG_take (i := 10) (oi := { dst := some 39, op := Op.binOp BinOp.and 23 (Operand.tmp 38) (Operand.const (Value.int IntKind.u64 4294967295)) 23, type := 23, pos := "law.go:89", after := #[{ on := 9, ground := Ground.data }, { on := 5, ground := Ground.guard }], guard := some (5, true) }) (v := ?_) rfl (by kernel_rfl) (by kernel_rfl) (by kernel_rfl) (by rfl) ?_ ?_
    rotate_left
    · intro W hW; have hand := and_low x hx; first | (go_simp; done) | (go_simp; with_reducible rfl)
    try simp only [Act.put, List.setIfInBounds_toArray, List.set_cons_zero, List.set_cons_succ]
    refine wpG_do (i := 7) (o := { dst := some 36, op := Op.call { callee := Callee.value (Operand.func 12), args := #[Operand.tmp 35, Operand.const (Value.int IntKind.i64 4)], argTypes := #[23, 3] }, type := 22, pos := "law.go:89", after := #[{ on := 6, ground := Ground.data }, { on := 5, ground := Ground.chain }, { on := 5, ground := Ground.guard }], guard := some (5, true) }) (by kernel_rfl) rfl (by rfl) fun K hK => ?_
    go_simp
    refine (store_k x 4 4 (by omega) (by omega) _).mono ?_
    rintro e w5 ⟨v5, rfl, hN5⟩
    refine hK.out _ _ hN5.2 ?_
    clear hK K
    have hB5 : Below w2.heap.size w2 w5 := bstep hB3 hN5.2
    try simp only [Act.put, List.setIfInBounds_toArray, List.set_cons_zero, List.set_cons_succ]
    refine wpG_do (i := 8) (o := { dst := some 37, op := Op.call { callee := Callee.value (Operand.func 10), args := #[Operand.tmp 36], argTypes := #[22] }, type := 23, pos := "law.go:89", after := #[{ on := 7, ground := Ground.data }, { on := 7, ground := Ground.chain }, { on := 5, ground := Ground.guard }], guard := some (5, true) }) (by kernel_rfl) rfl (by rfl) fun K hK => ?_
    go_simp
    refine (load_store _ x 4 (x % 4294967296) (by omega) (by omega) _ hN5.rd).mono ?_
    rintro e w6 ⟨rfl, rfl⟩
    refine hK.out _ _ (Below.refl _ _) ?_
    clear hK K
    clear hN5 hB3
    try simp only [Act.put, List.setIfInBounds_toArray, List.set_cons_zero, List.set_cons_succ]
    refine wpG_take (i := 11) (oi := { dst := some 40, op := Op.binOp BinOp.eql 23 (Operand.tmp 37) (Operand.tmp 39) 23, type := 4, pos := "law.go:89", after := #[{ on := 8, ground := Ground.data }, { on := 10, ground := Ground.data }, { on := 5, ground := Ground.guard }], guard := some (5, true) }) (v := ?_) rfl (by kernel_rfl) (by kernel_rfl) (by kernel_rfl) (by rfl) ?_ ?_
    rotate_left
    · intro W hW; first | (go_simp; done) | (go_simp; with_reducible rfl)
    try simp only [Act.put, List.setIfInBounds_toArray, List.set_cons_zero, List.set_cons_succ]
    refine wpG_take (i := 12) (oi := { dst := some 41, op := Op.pick (Operand.tmp 34) (Operand.tmp 40) (Operand.const (Value.bool false)), type := 4, pos := "law.go:89", after := #[{ on := 5, ground := Ground.data }, { on := 11, ground := Ground.data }], guard := none }) (v := ?_) rfl (by kernel_rfl) (by kernel_rfl) (by kernel_rfl) (by rfl) ?_ ?_
    rotate_left
    · intro W hW; first | (go_simp; done) | (go_simp; with_reducible rfl)
    try simp only [Act.put, List.setIfInBounds_toArray, List.set_cons_zero, List.set_cons_succ]
    refine wpG_take (i := 13) (oi := { dst := some 42, op := Op.move (Operand.tmp 41), type := 4, pos := "law.go:89", after := #[{ on := 12, ground := Ground.data }, { on := 8, ground := Ground.chain }], guard := none }) (v := ?_) rfl (by kernel_rfl) (by kernel_rfl) (by kernel_rfl) (by rfl) ?_ ?_
    rotate_left
    · intro W hW; first | (go_simp; done) | (go_simp; with_reducible rfl)
    try simp only [Act.put, List.setIfInBounds_toArray, List.set_cons_zero, List.set_cons_succ]
    refine wpG_take (i := 14) (oi := { dst := some 43, op := Op.move (Operand.tmp 8), type := 22, pos := "law.go:89", after := #[{ on := 13, ground := Ground.guard }], guard := some (13, true) }) (v := ?_) rfl (by kernel_rfl) (by kernel_rfl) (by kernel_rfl) (by rfl) ?_ ?_
    rotate_left
    · intro W hW; first | (go_simp; done) | (go_simp; with_reducible rfl)
    try simp only [Act.put, List.setIfInBounds_toArray, List.set_cons_zero, List.set_cons_succ]
    refine wpG_take (i := 15) (oi := { dst := some 44, op := Op.move (Operand.tmp 2), type := 22, pos := "law.go:89", after := #[{ on := 13, ground := Ground.guard }], guard := some (13, true) }) (v := ?_) rfl (by kernel_rfl) (by kernel_rfl) (by kernel_rfl) (by rfl) ?_ ?_
    rotate_left
    · intro W hW; first | (go_simp; done) | (go_simp; with_reducible rfl)
    try simp only [Act.put, List.setIfInBounds_toArray, List.set_cons_zero, List.set_cons_succ]
    refine wpG_take (i := 17) (oi := { dst := some 46, op := Op.move (Operand.tmp 1), type := 22, pos := "law.go:89", after := #[{ on := 13, ground := Ground.guard }], guard := some (13, true) }) (v := ?_) rfl (by kernel_rfl) (by kernel_rfl) (by kernel_rfl) (by rfl) ?_ ?_
    rotate_left
    · intro W hW; first | (go_simp; done) | (go_simp; with_reducible rfl)
    try simp only [Act.put, List.setIfInBounds_toArray, List.set_cons_zero, List.set_cons_succ]
    refine wpG_take (i := 18) (oi := { dst := some 47, op := Op.move (Operand.tmp 9), type := 3, pos := "law.go:89", after := #[{ on := 13, ground := Ground.guard }], guard := some (13, true) }) (v := ?_) rfl (by kernel_rfl) (by kernel_rfl) (by kernel_rfl) (by rfl) ?_ ?_
    rotate_left
    · intro W hW; first | (go_simp; done) | (go_simp; with_reducible rfl)
    try simp only [Act.put, List.setIfInBounds_toArray, List.set_cons_zero, List.set_cons_succ]
    refine wpG_take (i := 19) (oi := { dst := some 48, op := Op.slice 22 (Operand.tmp 46) none (some (Operand.tmp 47)) none, type := 22, pos := "law.go:89", after := #[{ on := 17, ground := Ground.data }, { on := 18, ground := Ground.data }, { on := 13, ground := Ground.guard }], guard := some (13, true) }) (v := ?_) rfl (by kernel_rfl) (by kernel_rfl) (by kernel_rfl) (by rfl) ?_ ?_
    rotate_left
    · intro W hW; have hsl : (if capa = 0 then aa else aa.map (fun x => x.add 0)) = aa := slice0 aa capa; have hlc : la.length ≤ capa := (by omega); first | (go_simp; done) | (go_simp; with_reducible rfl)
    try simp only [Act.put, List.setIfInBounds_toArray, List.set_cons_zero, List.set_cons_succ]
    refine wpG_do (i := 16) (o := { dst := some 45, op := Op.call { callee := Callee.value (Operand.func 14), args := #[Operand.tmp 43, Operand.tmp 44], argTypes := #[22, 22] }, type := 22, pos := "law.go:89", after := #[{ on := 14, ground := Ground.data }, { on := 15, ground := Ground.data }, { on := 13, ground := Ground.chain }, { on := 13, ground := Ground.guard }], guard := some (13, true) }) (by kernel_rfl) rfl (by rfl) fun K hK => ?_
    go_simp
    refine (xor_any _ _ (xorL la lb) lb _ (hx2.kept hB5) (hrb2.kept hB5) (by rw [xorL_length]; omega)).mono ?_
    rintro e w7 ⟨v7, rfl, hN7⟩
    refine hK.out _ _ hN7.2 ?_
    clear hK K
    have hB7 : Below w2.heap.size w2 w7 := bstep hB5 hN7.2
    rw [xorL_twice] at hN7
    clear hB5
    try simp only [Act.put, List.setIfInBounds_toArray, List.set_cons_zero, List.set_cons_succ]
    refine wpG_do (i := 20) (o := { dst := some 49, op := Op.call { callee := Callee.value (Operand.func 17), args := #[Operand.tmp 45, Operand.tmp 48], argTypes := #[22, 22] }, type := 4, pos := "law.go:89", after := #[{ on := 16, ground := Ground.data }, { on := 19, ground := Ground.data }, { on := 16, ground := Ground.chain }, { on := 13, ground := Ground.guard }], guard := some (13, true) }) (by kernel_rfl) rfl (by rfl) fun K hK => ?_
    go_simp
    refine (equal_same _ _ _ (la.take la.length) (by rw [show min la.length lb.length = la.length from (by omega)]) _ hN7.rd ((hra2.take (by omega)).kept hB7)).mono ?_
    rintro e w8 ⟨rfl, hE8⟩
    refine hK.out _ _ hE8 ?_
    clear hK K
    have hB8 : Below w2.heap.size w2 w8 := bstep hB7 hE8
    clear hN7 hE8 hB7
    try simp only [Act.put, List.setIfInBounds_toArray, List.set_cons_zero, List.set_cons_succ]
    refine wpG_take (i := 21) (oi := { dst := some 50, op := Op.pick (Operand.tmp 42) (Operand.tmp 49) (Operand.const (Value.bool false)), type := 4, pos := "law.go:89", after := #[{ on := 13, ground := Ground.data }, { on := 20, ground := Ground.data }], guard := none }) (v := ?_) rfl (by kernel_rfl) (by kernel_rfl) (by kernel_rfl) (by rfl) ?_ ?_
    rotate_left
    · intro W hW; first | (go_simp; done) | (go_simp; with_reducible rfl)
    try simp only [Act.put, List.setIfInBounds_toArray, List.set_cons_zero, List.set_cons_succ]
    refine wpG_take (i := 22) (oi := { dst := some 51, op := Op.move (Operand.tmp 50), type := 4, pos := "law.go:89", after := #[{ on := 21, ground := Ground.data }, { on := 20, ground := Ground.chain }], guard := none }) (v := ?_) rfl (by kernel_rfl) (by kernel_rfl) (by kernel_rfl) (by rfl) ?_ ?_
    rotate_left
    · intro W hW; first | (go_simp; done) | (go_simp; with_reducible rfl)
    try simp only [Act.put, List.setIfInBounds_toArray, List.set_cons_zero, List.set_cons_succ]
    refine wpG_take (i := 23) (oi := { dst := some 52, op := Op.move (Operand.tmp 1), type := 22, pos := "law.go:89", after := #[{ on := 22, ground := Ground.guard }], guard := some (22, true) }) (v := ?_) rfl (by kernel_rfl) (by kernel_rfl) (by kernel_rfl) (by rfl) ?_ ?_
    rotate_left
    · intro W hW; first | (go_simp; done) | (go_simp; with_reducible rfl)
    try simp only [Act.put, List.setIfInBounds_toArray, List.set_cons_zero, List.set_cons_succ]
    refine wpG_take (i := 24) (oi := { dst := some 53, op := Op.move (Operand.tmp 2), type := 22, pos := "law.go:89", after := #[{ on := 22, ground := Ground.guard }], guard := some (22, true) }) (v := ?_) rfl (by kernel_rfl) (by kernel_rfl) (by kernel_rfl) (by rfl) ?_ ?_
    rotate_left
    · intro W hW; first | (go_simp; done) | (go_simp; with_reducible rfl)
    try simp only [Act.put, List.setIfInBounds_toArray, List.set_cons_zero, List.set_cons_succ]
    refine wpG_take (i := 26) (oi := { dst := some 55, op := Op.move (Operand.tmp 1), type := 22, pos := "law.go:89", after := #[{ on := 22, ground := Ground.guard }], guard := some (22, true) }) (v := ?_) rfl (by kernel_rfl) (by kernel_rfl) (by kernel_rfl) (by rfl) ?_ ?_
    rotate_left
    · intro W hW; first | (go_simp; done) | (go_simp; with_reducible rfl)
    try simp only [Act.put, List.setIfInBounds_toArray, List.set_cons_zero, List.set_cons_succ]
    refine wpG_take (i := 27) (oi := { dst := some 56, op := Op.call { callee := Callee.builtin Builtin.len, args := #[Operand.tmp 55], argTypes := #[22] }, type := 3, pos := "law.go:89", after := #[{ on := 26, ground := Ground.data }, { on := 22, ground := Ground.guard }], guard := some (22, true) }) (v := ?_) rfl (by kernel_rfl) (by kernel_rfl) (by kernel_rfl) (by rfl) ?_ ?_
    rotate_left
    · intro W hW; first | (go_simp; done) | (go_simp; with_reducible rfl)
    try simp only [Act.put, List.setIfInBounds_toArray, List.set_cons_zero, List.set_cons_succ]
    refine wpG_take (i := 28) (oi := { dst := some 57, op := Op.move (Operand.tmp 2), type := 22, pos := "law.go:89", after := #[{ on := 22, ground := Ground.guard }], guard := some (22, true) }) (v := ?_) rfl (by kernel_rfl) (by kernel_rfl) (by kernel_rfl) (by rfl) ?_ ?_
    rotate_left
    · intro W hW; first | (go_simp; done) | (go_simp; with_reducible rfl)
    try simp only [Act.put, List.setIfInBounds_toArray, List.set_cons_zero, List.set_cons_succ]
    refine wpG_take (i := 29) (oi := { dst := some 58, op := Op.call { callee := Callee.builtin Builtin.len, args := #[Operand.tmp 57], argTypes := #[22] }, type := 3, pos := "law.go:89", after := #[{ on := 28, ground := Ground.data }, { on := 22, ground := Ground.guard }], guard := some (22, true) }) (v := ?_) rfl (by kernel_rfl) (by kernel_rfl) (by kernel_rfl) (by rfl) ?_ ?_
    rotate_left
    · intro W hW; first | (go_simp; done) | (go_simp; with_reducible rfl)
    try simp only [Act.put, List.setIfInBounds_toArray, List.set_cons_zero, List.set_cons_succ]
    refine wpG_take (i := 30) (oi := { dst := some 59, op := Op.binOp BinOp.eql 3 (Operand.tmp 56) (Operand.tmp 58) 3, type := 4, pos := "law.go:89", after := #[{ on := 27, ground := Ground.data }, { on := 29, ground := Ground.data }, { on := 22, ground := Ground.guard }], guard := some (22, true) }) (v := ?_) rfl (by kernel_rfl) (by kernel_rfl) (by kernel_rfl) (by rfl) ?_ ?_
    rotate_left
    · intro W hW; first | (go_simp; done) | (go_simp; with_reducible rfl)
    try simp only [Act.put, List.setIfInBounds_toArray, List.set_cons_zero, List.set_cons_succ]
    refine wpG_do (i := 25) (o := { dst := some 54, op := Op.call { callee := Callee.value (Operand.func 17), args := #[Operand.tmp 52, Operand.tmp 53], argTypes := #[22, 22] }, type := 4, pos := "law.go:89", after := #[{ on := 23, ground := Ground.data }, { on := 24, ground := Ground.data }, { on := 22, ground := Ground.chain }, { on := 22, ground := Ground.guard }], guard := some (22, true) }) (by kernel_rfl) rfl (by rfl) fun K hK => ?_
    go_simp
    refine (equal_bool _ _ la lb false HNE.out _ (hra2.kept hB8) (hrb2.kept hB8)).mono ?_
    rintro e w9 ⟨rfl, hE9⟩
    refine hK.out _ _ hE9 ?_
    clear hK K
    have hB9 : Below w2.heap.size w2 w9 := bstep hB8 hE9
    clear hE9 hB8
    try simp only [Act.put, List.setIfInBounds_toArray, List.set_cons_zero, List.set_cons_succ]
    refine wpG_take (i := 31) (oi := { dst := some 60, op := Op.move (Operand.tmp 59), type := 4, pos := "law.go:89", after := #[{ on := 30, ground := Ground.data }, { on := 25, ground := Ground.chain }, { on := 22, ground := Ground.guard }], guard := some (22, true) }) (v := ?_) rfl (by kernel_rfl) (by kernel_rfl) (by kernel_rfl) (by rfl) ?_ ?_
    rotate_left
    · intro W hW; first | (go_simp; done) | (go_simp; with_reducible rfl)
    try simp only [Act.put, List.setIfInBounds_toArray, List.set_cons_zero, List.set_cons_succ]
    refine wpG_skip (i := 32) (oi := { dst := some 61, op := Op.move (Operand.tmp 8), type := 22, pos := "law.go:89", after := #[{ on := 31, ground := Ground.guard }], guard := some (31, true) }) rfl (by kernel_rfl) (by kernel_rfl) (by kernel_rfl) (by rfl) ?_
    try simp only [Act.put, List.setIfInBounds_toArray, List.set_cons_zero, List.set_cons_succ]
    refine wpG_skip (i := 33) (oi := { dst := some 62, op := Op.call { callee := Callee.value (Operand.func 19), args := #[Operand.tmp 61], argTypes := #[22] }, type := 4, pos := "law.go:89", after := #[{ on := 32, ground := Ground.data }, { on := 31, ground := Ground.chain }, { on := 31, ground := Ground.guard }], guard := some (31, true) }) rfl (by kernel_rfl) (by kernel_rfl) (by kernel_rfl) (by rfl) ?_
    try simp only [Act.put, List.setIfInBounds_toArray, List.set_cons_zero, List.set_cons_succ]
    refine wpG_take (i := 34) (oi := { dst := some 63, op := Op.pick (Operand.tmp 60) (Operand.tmp 62) (Operand.const (Value.bool false)), type := 4, pos := "law.go:89", after := #[{ on := 31, ground := Ground.data }, { on := 33, ground := Ground.data }, { on := 22, ground := Ground.guard }], guard := some (22, true) }) (v := ?_) rfl (by kernel_rfl) (by kernel_rfl) (by kernel_rfl) (by rfl) ?_ ?_
    rotate_left
    · intro W hW; first | (go_simp; done) | (go_simp; with_reducible rfl)
    try simp only [Act.put, List.setIfInBounds_toArray, List.set_cons_zero, List.set_cons_succ]
    refine wpG_take (i := 35) (oi := { dst := some 64, op := Op.binOp BinOp.eql 4 (Operand.tmp 54) (Operand.tmp 63) 4, type := 4, pos := "law.go:89", after := #[{ on := 25, ground := Ground.data }, { on := 34, ground := Ground.data }, { on := 22, ground := Ground.guard }], guard := some (22, true) }) (v := ?_) rfl (by kernel_rfl) (by kernel_rfl) (by kernel_rfl) (by rfl) ?_ ?_
    rotate_left
    · intro W hW; have hbb : ∀ b : Bool, (b == b) = true := (by intro b; cases b <;> rfl); first | (go_simp; done) | (go_simp; with_reducible rfl)
    try simp only [Act.put, List.setIfInBounds_toArray, List.set_cons_zero, List.set_cons_succ]
    refine wpG_take (i := 36) (oi := { dst := some 65, op := Op.pick (Operand.tmp 51) (Operand.tmp 64) (Operand.const (Value.bool false)), type := 4, pos := "law.go:89", after := #[{ on := 22, ground := Ground.data }, { on := 35, ground := Ground.data }], guard := none }) (v := ?_) rfl (by kernel_rfl) (by kernel_rfl) (by kernel_rfl) (by rfl) ?_ ?_
    rotate_left
    · intro W hW; first | (go_simp; done) | (go_simp; with_reducible rfl)
    try simp only [Act.put, List.setIfInBounds_toArray, List.set_cons_zero, List.set_cons_succ]
    refine wpG_take (i := 37) (oi := { dst := some 6, op := Op.assign (Operand.tmp 65), type := 4, pos := "law.go:89", after := #[{ on := 36, ground := Ground.data }, { on := 33, ground := Ground.chain }, { on := 0, ground := Ground.phase }, { on := 1, ground := Ground.phase }, { on := 2, ground := Ground.phase }, { on := 3, ground := Ground.phase }, { on := 4, ground := Ground.phase }, { on := 5, ground := Ground.phase }, { on := 6, ground := Ground.phase }, { on := 7, ground := Ground.phase }, { on := 8, ground := Ground.phase }, { on := 9, ground := Ground.phase }, { on := 10, ground := Ground.phase }, { on := 11, ground := Ground.phase }, { on := 12, ground := Ground.phase }, { on := 13, ground := Ground.phase }, { on := 14, ground := Ground.phase }, { on := 15, ground := Ground.phase }, { on := 16, ground := Ground.phase }, { on := 17, ground := Ground.phase }, { on := 18, ground := Ground.phase }, { on := 19, ground := Ground.phase }, { on := 20, ground := Ground.phase }, { on := 21, ground := Ground.phase }, { on := 22, ground := Ground.phase }, { on := 23, ground := Ground.phase }, { on := 24, ground := Ground.phase }, { on := 25, ground := Ground.phase }, { on := 26, ground := Ground.phase }, { on := 27, ground := Ground.phase }, { on := 28, ground := Ground.phase }, { on := 29, ground := Ground.phase }, { on := 30, ground := Ground.phase }, { on := 31, ground := Ground.phase }, { on := 32, ground := Ground.phase }, { on := 33, ground := Ground.phase }, { on := 34, ground := Ground.phase }, { on := 35, ground := Ground.phase }, { on := 36, ground := Ground.phase }], guard := none }) (v := ?_) rfl (by kernel_rfl) (by kernel_rfl) (by kernel_rfl) (by rfl) ?_ ?_
    rotate_left
    · intro W hW; first | (go_simp; done) | (go_simp; with_reducible rfl)
    try simp only [Act.put, List.setIfInBounds_toArray, List.set_cons_zero, List.set_cons_succ]
    refine wpG_done (by kernel_rfl) ?_
    go_wp2
    go_ret
    exact ⟨rfl, bstep hB2 hB9⟩
  · go_enter Try.func6, Try.ntmps6
    go_wp2_with fail
    refine (awake_any _).mono ?_
    rintro e w1 ⟨rfl, hB1⟩
    have hra1 := Hra.out.kept hB1
    have hrb1 := Hrb.out.kept hB1
    have e1 : ((la.length : Int) == (lb.length : Int)) = false := by simp; omega
    have hne : decide (la = lb) = false := decide_eq_false (by rintro rfl; omega)
    have HNE : Hid _ := hne
    clear hne
    go_wp2_with fail
    refine (xor_any _ _ la lb _ hra1 hrb1 (by omega)).mono ?_
    rintro e w2 ⟨v8, rfl, hN8⟩
    have hra2 := hra1.kept hN8.2
    have hrb2 := hrb1.kept hN8.2
    have hx2 := hN8.rd
    have hB2 := bstep hB1 hN8.2
    clear hB1 hN8 hra1 hrb1
    go_wp2_with fail
    refine wpG_begin (by kernel_rfl) ?_
    refine wpG_take (i := 0) (oi := { dst := some 29, op := Op.move (Operand.tmp 0), type := 23, pos := "law.go:89", after := #[], guard := none }) (v := ?_) rfl (by kernel_rfl) (by kernel_rfl) (by kernel_rfl) (by rfl) ?_ ?_
    rotate_left
    · intro W hW; first | (go_simp; done) | (go_simp; with_reducible rfl)
    try simp only [Act.put, List.setIfInBounds_toArray, List.set_cons_zero, List.set_cons_succ]
    refine wpG_take (i := 3) (oi := { dst := some 32, op := Op.move (Operand.tmp 0), type := 23, pos := "law.go:89", after := #[], guard := none }) (v := ?_) rfl (by kernel_rfl) (by kernel_rfl) (by kernel_rfl) (by rfl) ?_ ?_
    rotate_left
    · intro W hW; first | (go_simp; done) | (go_simp; with_reducible rfl)
    try simp only [Act.put, List.setIfInBounds_toArray, List.set_cons_zero, List.set_cons_succ]
    refine wpG_do (i := 1) (o := { dst := some 30, op := Op.call { callee := Callee.value (Operand.func 12), args := #[Operand.tmp 29, Operand.const (Value.int IntKind.i64 8)], argTypes := #[23, 3] }, type := 22, pos := "law.go:89", after := #[{ on := 0, ground := Ground.data }], guard := none }) (by kernel_rfl) rfl (by rfl) fun K hK => ?_
    go_simp
    refine (store_k x 8 8 (by omega) (by omega) _).mono ?_
    rintro e w3 ⟨v3, rfl, hN3⟩
    refine hK.out _ _ hN3.2 ?_
    clear hK K
    have hB3 : Below w2.heap.size w2 w3 := bstep (Below.refl _ _).drew hN3.2
    try simp only [Act.put, List.setIfInBounds_toArray, List.set_cons_zero, List.set_cons_succ]
    refine wpG_do (i := 2) (o := { dst := some 31, op := Op.call { callee := Callee.value (Operand.func 10), args := #[Operand.tmp 30], argTypes := #[22] }, type := 23, pos := "law.go:89", after := #[{ on := 1, ground := Ground.data }, { on := 1, ground := Ground.chain }], guard := none }) (by kernel_rfl) rfl (by rfl) fun K hK => ?_
    go_simp
    refine (load_store _ x 8 x (by omega) (by omega) _ hN3.rd).mono ?_
    rintro e w4 ⟨rfl, rfl⟩
    refine hK.out _ _ (Below.refl _ _) ?_
    clear hK K
    clear hN3
    try simp only [Act.put, List.setIfInBounds_toArray, List.set_cons_zero, List.set_cons_succ]
    refine wpG_take (i := 4) (oi := { dst := some 33, op := Op.binOp BinOp.eql 23 (Operand.tmp 31) (Operand.tmp 32) 23, type := 4, pos := "law.go:89", after := #[{ on := 2, ground := Ground.data }, { on := 3, ground := Ground.data }], guard := none }) (v := ?_) rfl (by kernel_rfl) (by kernel_rfl) (by kernel_rfl) (by rfl) ?_ ?_
    rotate_left
    · intro W hW; first | (go_simp; done) | (go_simp; with_reducible rfl)
    try simp only [Act.put, List.setIfInBounds_toArray, List.set_cons_zero, List.set_cons_succ]
    refine wpG_take (i := 5) (oi := { dst := some 34, op := Op.move (Operand.tmp 33), type := 4, pos := "law.go:89", after := #[{ on := 4, ground := Ground.data }, { on := 2, ground := Ground.chain }], guard := none }) (v := ?_) rfl (by kernel_rfl) (by kernel_rfl) (by kernel_rfl) (by rfl) ?_ ?_
    rotate_left
    · intro W hW; first | (go_simp; done) | (go_simp; with_reducible rfl)
    try simp only [Act.put, List.setIfInBounds_toArray, List.set_cons_zero, List.set_cons_succ]
    refine wpG_take (i := 6) (oi := { dst := some 35, op := Op.move (Operand.tmp 0), type := 23, pos := "law.go:89", after := #[{ on := 5, ground := Ground.guard }], guard := some (5, true) }) (v := ?_) rfl (by kernel_rfl) (by kernel_rfl) (by kernel_rfl) (by rfl) ?_ ?_
    rotate_left
    · intro W hW; first | (go_simp; done) | (go_simp; with_reducible rfl)
    try simp only [Act.put, List.setIfInBounds_toArray, List.set_cons_zero, List.set_cons_succ]
    refine wpG_take (i := 9) (oi := { dst := some 38, op := Op.move (Operand.tmp 0), type := 23, pos := "law.go:89", after := #[{ on := 5, ground := Ground.guard }], guard := some (5, true) }) (v := ?_) rfl (by kernel_rfl) (by kernel_rfl) (by kernel_rfl) (by rfl) ?_ ?_
    rotate_left
    · intro W hW; first | (go_simp; done) | (go_simp; with_reducible rfl)
    try simp only [Act.put, List.setIfInBounds_toArray, List.set_cons_zero, List.set_cons_succ]
    refine wpG_take (i := 10) (oi := { dst := some 39, op := Op.binOp BinOp.and 23 (Operand.tmp 38) (Operand.const (Value.int IntKind.u64 4294967295)) 23, type := 23, pos := "law.go:89", after := #[{ on := 9, ground := Ground.data }, { on := 5, ground := Ground.guard }], guard := some (5, true) }) (v := ?_) rfl (by kernel_rfl) (by kernel_rfl) (by kernel_rfl) (by rfl) ?_ ?_
    rotate_left
    · intro W hW; have hand := and_low x hx; first | (go_simp; done) | (go_simp; with_reducible rfl)
    try simp only [Act.put, List.setIfInBounds_toArray, List.set_cons_zero, List.set_cons_succ]
    refine wpG_do (i := 7) (o := { dst := some 36, op := Op.call { callee := Callee.value (Operand.func 12), args := #[Operand.tmp 35, Operand.const (Value.int IntKind.i64 4)], argTypes := #[23, 3] }, type := 22, pos := "law.go:89", after := #[{ on := 6, ground := Ground.data }, { on := 5, ground := Ground.chain }, { on := 5, ground := Ground.guard }], guard := some (5, true) }) (by kernel_rfl) rfl (by rfl) fun K hK => ?_
    go_simp
    refine (store_k x 4 4 (by omega) (by omega) _).mono ?_
    rintro e w5 ⟨v5, rfl, hN5⟩
    refine hK.out _ _ hN5.2 ?_
    clear hK K
    have hB5 : Below w2.heap.size w2 w5 := bstep hB3 hN5.2
    try simp only [Act.put, List.setIfInBounds_toArray, List.set_cons_zero, List.set_cons_succ]
    refine wpG_do (i := 8) (o := { dst := some 37, op := Op.call { callee := Callee.value (Operand.func 10), args := #[Operand.tmp 36], argTypes := #[22] }, type := 23, pos := "law.go:89", after := #[{ on := 7, ground := Ground.data }, { on := 7, ground := Ground.chain }, { on := 5, ground := Ground.guard }], guard := some (5, true) }) (by kernel_rfl) rfl (by rfl) fun K hK => ?_
    go_simp
    refine (load_store _ x 4 (x % 4294967296) (by omega) (by omega) _ hN5.rd).mono ?_
    rintro e w6 ⟨rfl, rfl⟩
    refine hK.out _ _ (Below.refl _ _) ?_
    clear hK K
    clear hN5 hB3
    try simp only [Act.put, List.setIfInBounds_toArray, List.set_cons_zero, List.set_cons_succ]
    refine wpG_take (i := 11) (oi := { dst := some 40, op := Op.binOp BinOp.eql 23 (Operand.tmp 37) (Operand.tmp 39) 23, type := 4, pos := "law.go:89", after := #[{ on := 8, ground := Ground.data }, { on := 10, ground := Ground.data }, { on := 5, ground := Ground.guard }], guard := some (5, true) }) (v := ?_) rfl (by kernel_rfl) (by kernel_rfl) (by kernel_rfl) (by rfl) ?_ ?_
    rotate_left
    · intro W hW; first | (go_simp; done) | (go_simp; with_reducible rfl)
    try simp only [Act.put, List.setIfInBounds_toArray, List.set_cons_zero, List.set_cons_succ]
    refine wpG_take (i := 12) (oi := { dst := some 41, op := Op.pick (Operand.tmp 34) (Operand.tmp 40) (Operand.const (Value.bool false)), type := 4, pos := "law.go:89", after := #[{ on := 5, ground := Ground.data }, { on := 11, ground := Ground.data }], guard := none }) (v := ?_) rfl (by kernel_rfl) (by kernel_rfl) (by kernel_rfl) (by rfl) ?_ ?_
    rotate_left
    · intro W hW; first | (go_simp; done) | (go_simp; with_reducible rfl)
    try simp only [Act.put, List.setIfInBounds_toArray, List.set_cons_zero, List.set_cons_succ]
    refine wpG_take (i := 13) (oi := { dst := some 42, op := Op.move (Operand.tmp 41), type := 4, pos := "law.go:89", after := #[{ on := 12, ground := Ground.data }, { on := 8, ground := Ground.chain }], guard := none }) (v := ?_) rfl (by kernel_rfl) (by kernel_rfl) (by kernel_rfl) (by rfl) ?_ ?_
    rotate_left
    · intro W hW; first | (go_simp; done) | (go_simp; with_reducible rfl)
    try simp only [Act.put, List.setIfInBounds_toArray, List.set_cons_zero, List.set_cons_succ]
    refine wpG_take (i := 14) (oi := { dst := some 43, op := Op.move (Operand.tmp 8), type := 22, pos := "law.go:89", after := #[{ on := 13, ground := Ground.guard }], guard := some (13, true) }) (v := ?_) rfl (by kernel_rfl) (by kernel_rfl) (by kernel_rfl) (by rfl) ?_ ?_
    rotate_left
    · intro W hW; first | (go_simp; done) | (go_simp; with_reducible rfl)
    try simp only [Act.put, List.setIfInBounds_toArray, List.set_cons_zero, List.set_cons_succ]
    refine wpG_take (i := 15) (oi := { dst := some 44, op := Op.move (Operand.tmp 2), type := 22, pos := "law.go:89", after := #[{ on := 13, ground := Ground.guard }], guard := some (13, true) }) (v := ?_) rfl (by kernel_rfl) (by kernel_rfl) (by kernel_rfl) (by rfl) ?_ ?_
    rotate_left
    · intro W hW; first | (go_simp; done) | (go_simp; with_reducible rfl)
    try simp only [Act.put, List.setIfInBounds_toArray, List.set_cons_zero, List.set_cons_succ]
    refine wpG_take (i := 17) (oi := { dst := some 46, op := Op.move (Operand.tmp 1), type := 22, pos := "law.go:89", after := #[{ on := 13, ground := Ground.guard }], guard := some (13, true) }) (v := ?_) rfl (by kernel_rfl) (by kernel_rfl) (by kernel_rfl) (by rfl) ?_ ?_
    rotate_left
    · intro W hW; first | (go_simp; done) | (go_simp; with_reducible rfl)
    try simp only [Act.put, List.setIfInBounds_toArray, List.set_cons_zero, List.set_cons_succ]
    refine wpG_take (i := 18) (oi := { dst := some 47, op := Op.move (Operand.tmp 9), type := 3, pos := "law.go:89", after := #[{ on := 13, ground := Ground.guard }], guard := some (13, true) }) (v := ?_) rfl (by kernel_rfl) (by kernel_rfl) (by kernel_rfl) (by rfl) ?_ ?_
    rotate_left
    · intro W hW; first | (go_simp; done) | (go_simp; with_reducible rfl)
    try simp only [Act.put, List.setIfInBounds_toArray, List.set_cons_zero, List.set_cons_succ]
    refine wpG_take (i := 19) (oi := { dst := some 48, op := Op.slice 22 (Operand.tmp 46) none (some (Operand.tmp 47)) none, type := 22, pos := "law.go:89", after := #[{ on := 17, ground := Ground.data }, { on := 18, ground := Ground.data }, { on := 13, ground := Ground.guard }], guard := some (13, true) }) (v := ?_) rfl (by kernel_rfl) (by kernel_rfl) (by kernel_rfl) (by rfl) ?_ ?_
    rotate_left
    · intro W hW; have hsl : (if capa = 0 then aa else aa.map (fun x => x.add 0)) = aa := slice0 aa capa; have hlc : lb.length ≤ capa := (by omega); first | (go_simp; done) | (go_simp; with_reducible rfl)
    try simp only [Act.put, List.setIfInBounds_toArray, List.set_cons_zero, List.set_cons_succ]
    refine wpG_do (i := 16) (o := { dst := some 45, op := Op.call { callee := Callee.value (Operand.func 14), args := #[Operand.tmp 43, Operand.tmp 44], argTypes := #[22, 22] }, type := 22, pos := "law.go:89", after := #[{ on := 14, ground := Ground.data }, { on := 15, ground := Ground.data }, { on := 13, ground := Ground.chain }, { on := 13, ground := Ground.guard }], guard := some (13, true) }) (by kernel_rfl) rfl (by rfl) fun K hK => ?_
    go_simp
    refine (xor_any _ _ (xorL la lb) lb _ (hx2.kept hB5) (hrb2.kept hB5) (by rw [xorL_length]; omega)).mono ?_
    rintro e w7 ⟨v7, rfl, hN7⟩
    refine hK.out _ _ hN7.2 ?_
    clear hK K
    have hB7 : Below w2.heap.size w2 w7 := bstep hB5 hN7.2
    rw [xorL_twice] at hN7
    clear hB5
    try simp only [Act.put, List.setIfInBounds_toArray, List.set_cons_zero, List.set_cons_succ]
    refine wpG_do (i := 20) (o := { dst := some 49, op := Op.call { callee := Callee.value (Operand.func 17), args := #[Operand.tmp 45, Operand.tmp 48], argTypes := #[22, 22] }, type := 4, pos := "law.go:89", after := #[{ on := 16, ground := Ground.data }, { on := 19, ground := Ground.data }, { on := 16, ground := Ground.chain }, { on := 13, ground := Ground.guard }], guard := some (13, true) }) (by kernel_rfl) rfl (by rfl) fun K hK => ?_
    go_simp
    refine (equal_same _ _ _ (la.take lb.length) (by rw [show min la.length lb.length = lb.length from (by omega)]) _ hN7.rd ((hra2.take (by omega)).kept hB7)).mono ?_
    rintro e w8 ⟨rfl, hE8⟩
    refine hK.out _ _ hE8 ?_
    clear hK K
    have hB8 : Below w2.heap.size w2 w8 := bstep hB7 hE8
    clear hN7 hE8 hB7
    try simp only [Act.put, List.setIfInBounds_toArray, List.set_cons_zero, List.set_cons_succ]
    refine wpG_take (i := 21) (oi := { dst := some 50, op := Op.pick (Operand.tmp 42) (Operand.tmp 49) (Operand.const (Value.bool false)), type := 4, pos := "law.go:89", after := #[{ on := 13, ground := Ground.data }, { on := 20, ground := Ground.data }], guard := none }) (v := ?_) rfl (by kernel_rfl) (by kernel_rfl) (by kernel_rfl) (by rfl) ?_ ?_
    rotate_left
    · intro W hW; first | (go_simp; done) | (go_simp; with_reducible rfl)
    try simp only [Act.put, List.setIfInBounds_toArray, List.set_cons_zero, List.set_cons_succ]
    refine wpG_take (i := 22) (oi := { dst := some 51, op := Op.move (Operand.tmp 50), type := 4, pos := "law.go:89", after := #[{ on := 21, ground := Ground.data }, { on := 20, ground := Ground.chain }], guard := none }) (v := ?_) rfl (by kernel_rfl) (by kernel_rfl) (by kernel_rfl) (by rfl) ?_ ?_
    rotate_left
    · intro W hW; first | (go_simp; done) | (go_simp; with_reducible rfl)
    try simp only [Act.put, List.setIfInBounds_toArray, List.set_cons_zero, List.set_cons_succ]
    refine wpG_take (i := 23) (oi := { dst := some 52, op := Op.move (Operand.tmp 1), type := 22, pos := "law.go:89", after := #[{ on := 22, ground := Ground.guard }], guard := some (22, true) }) (v := ?_) rfl (by kernel_rfl) (by kernel_rfl) (by kernel_rfl) (by rfl) ?_ ?_
    rotate_left
    · intro W hW; first | (go_simp; done) | (go_simp; with_reducible rfl)
    try simp only [Act.put, List.setIfInBounds_toArray, List.set_cons_zero, List.set_cons_succ]
    refine wpG_take (i := 24) (oi := { dst := some 53, op := Op.move (Operand.tmp 2), type := 22, pos := "law.go:89", after := #[{ on := 22, ground := Ground.guard }], guard := some (22, true) }) (v := ?_) rfl (by kernel_rfl) (by kernel_rfl) (by kernel_rfl) (by rfl) ?_ ?_
    rotate_left
    · intro W hW; first | (go_simp; done) | (go_simp; with_reducible rfl)
    try simp only [Act.put, List.setIfInBounds_toArray, List.set_cons_zero, List.set_cons_succ]
    refine wpG_take (i := 26) (oi := { dst := some 55, op := Op.move (Operand.tmp 1), type := 22, pos := "law.go:89", after := #[{ on := 22, ground := Ground.guard }], guard := some (22, true) }) (v := ?_) rfl (by kernel_rfl) (by kernel_rfl) (by kernel_rfl) (by rfl) ?_ ?_
    rotate_left
    · intro W hW; first | (go_simp; done) | (go_simp; with_reducible rfl)
    try simp only [Act.put, List.setIfInBounds_toArray, List.set_cons_zero, List.set_cons_succ]
    refine wpG_take (i := 27) (oi := { dst := some 56, op := Op.call { callee := Callee.builtin Builtin.len, args := #[Operand.tmp 55], argTypes := #[22] }, type := 3, pos := "law.go:89", after := #[{ on := 26, ground := Ground.data }, { on := 22, ground := Ground.guard }], guard := some (22, true) }) (v := ?_) rfl (by kernel_rfl) (by kernel_rfl) (by kernel_rfl) (by rfl) ?_ ?_
    rotate_left
    · intro W hW; first | (go_simp; done) | (go_simp; with_reducible rfl)
    try simp only [Act.put, List.setIfInBounds_toArray, List.set_cons_zero, List.set_cons_succ]
    refine wpG_take (i := 28) (oi := { dst := some 57, op := Op.move (Operand.tmp 2), type := 22, pos := "law.go:89", after := #[{ on := 22, ground := Ground.guard }], guard := some (22, true) }) (v := ?_) rfl (by kernel_rfl) (by kernel_rfl) (by kernel_rfl) (by rfl) ?_ ?_
    rotate_left
    · intro W hW; first | (go_simp; done) | (go_simp; with_reducible rfl)
    try simp only [Act.put, List.setIfInBounds_toArray, List.set_cons_zero, List.set_cons_succ]
    refine wpG_take (i := 29) (oi := { dst := some 58, op := Op.call { callee := Callee.builtin Builtin.len, args := #[Operand.tmp 57], argTypes := #[22] }, type := 3, pos := "law.go:89", after := #[{ on := 28, ground := Ground.data }, { on := 22, ground := Ground.guard }], guard := some (22, true) }) (v := ?_) rfl (by kernel_rfl) (by kernel_rfl) (by kernel_rfl) (by rfl) ?_ ?_
    rotate_left
    · intro W hW; first | (go_simp; done) | (go_simp; with_reducible rfl)
    try simp only [Act.put, List.setIfInBounds_toArray, List.set_cons_zero, List.set_cons_succ]
    refine wpG_take (i := 30) (oi := { dst := some 59, op := Op.binOp BinOp.eql 3 (Operand.tmp 56) (Operand.tmp 58) 3, type := 4, pos := "law.go:89", after := #[{ on := 27, ground := Ground.data }, { on := 29, ground := Ground.data }, { on := 22, ground := Ground.guard }], guard := some (22, true) }) (v := ?_) rfl (by kernel_rfl) (by kernel_rfl) (by kernel_rfl) (by rfl) ?_ ?_
    rotate_left
    · intro W hW; first | (go_simp; done) | (go_simp; with_reducible rfl)
    try simp only [Act.put, List.setIfInBounds_toArray, List.set_cons_zero, List.set_cons_succ]
    refine wpG_do (i := 25) (o := { dst := some 54, op := Op.call { callee := Callee.value (Operand.func 17), args := #[Operand.tmp 52, Operand.tmp 53], argTypes := #[22, 22] }, type := 4, pos := "law.go:89", after := #[{ on := 23, ground := Ground.data }, { on := 24, ground := Ground.data }, { on := 22, ground := Ground.chain }, { on := 22, ground := Ground.guard }], guard := some (22, true) }) (by kernel_rfl) rfl (by rfl) fun K hK => ?_
    go_simp
    refine (equal_bool _ _ la lb false HNE.out _ (hra2.kept hB8) (hrb2.kept hB8)).mono ?_
    rintro e w9 ⟨rfl, hE9⟩
    refine hK.out _ _ hE9 ?_
    clear hK K
    have hB9 : Below w2.heap.size w2 w9 := bstep hB8 hE9
    clear hE9 hB8
    try simp only [Act.put, List.setIfInBounds_toArray, List.set_cons_zero, List.set_cons_succ]
    refine wpG_take (i := 31) (oi := { dst := some 60, op := Op.move (Operand.tmp 59), type := 4, pos := "law.go:89", after := #[{ on := 30, ground := Ground.data }, { on := 25, ground := Ground.chain }, { on := 22, ground := Ground.guard }], guard := some (22, true) }) (v := ?_) rfl (by kernel_rfl) (by kernel_rfl) (by kernel_rfl) (by rfl) ?_ ?_
    rotate_left
    · intro W hW; first | (go_simp; done) | (go_simp; with_reducible rfl)
    try simp only [Act.put, List.setIfInBounds_toArray, List.set_cons_zero, List.set_cons_succ]
    refine wpG_skip (i := 32) (oi := { dst := some 61, op := Op.move (Operand.tmp 8), type := 22, pos := "law.go:89", after := #[{ on := 31, ground := Ground.guard }], guard := some (31, true) }) rfl (by kernel_rfl) (by kernel_rfl) (by kernel_rfl) (by rfl) ?_
    try simp only [Act.put, List.setIfInBounds_toArray, List.set_cons_zero, List.set_cons_succ]
    refine wpG_skip (i := 33) (oi := { dst := some 62, op := Op.call { callee := Callee.value (Operand.func 19), args := #[Operand.tmp 61], argTypes := #[22] }, type := 4, pos := "law.go:89", after := #[{ on := 32, ground := Ground.data }, { on := 31, ground := Ground.chain }, { on := 31, ground := Ground.guard }], guard := some (31, true) }) rfl (by kernel_rfl) (by kernel_rfl) (by kernel_rfl) (by rfl) ?_
    try simp only [Act.put, List.setIfInBounds_toArray, List.set_cons_zero, List.set_cons_succ]
    refine wpG_take (i := 34) (oi := { dst := some 63, op := Op.pick (Operand.tmp 60) (Operand.tmp 62) (Operand.const (Value.bool false)), type := 4, pos := "law.go:89", after := #[{ on := 31, ground := Ground.data }, { on := 33, ground := Ground.data }, { on := 22, ground := Ground.guard }], guard := some (22, true) }) (v := ?_) rfl (by kernel_rfl) (by kernel_rfl) (by kernel_rfl) (by rfl) ?_ ?_
    rotate_left
    · intro W hW; first | (go_simp; done) | (go_simp; with_reducible rfl)
    try simp only [Act.put, List.setIfInBounds_toArray, List.set_cons_zero, List.set_cons_succ]
    refine wpG_take (i := 35) (oi := { dst := some 64, op := Op.binOp BinOp.eql 4 (Operand.tmp 54) (Operand.tmp 63) 4, type := 4, pos := "law.go:89", after := #[{ on := 25, ground := Ground.data }, { on := 34, ground := Ground.data }, { on := 22, ground := Ground.guard }], guard := some (22, true) }) (v := ?_) rfl (by kernel_rfl) (by kernel_rfl) (by kernel_rfl) (by rfl) ?_ ?_
    rotate_left
    · intro W hW; have hbb : ∀ b : Bool, (b == b) = true := (by intro b; cases b <;> rfl); first | (go_simp; done) | (go_simp; with_reducible rfl)
    try simp only [Act.put, List.setIfInBounds_toArray, List.set_cons_zero, List.set_cons_succ]
    refine wpG_take (i := 36) (oi := { dst := some 65, op := Op.pick (Operand.tmp 51) (Operand.tmp 64) (Operand.const (Value.bool false)), type := 4, pos := "law.go:89", after := #[{ on := 22, ground := Ground.data }, { on := 35, ground := Ground.data }], guard := none }) (v := ?_) rfl (by kernel_rfl) (by kernel_rfl) (by kernel_rfl) (by rfl) ?_ ?_
    rotate_left
    · intro W hW; first | (go_simp; done) | (go_simp; with_reducible rfl)
    try simp only [Act.put, List.setIfInBounds_toArray, List.set_cons_zero, List.set_cons_succ]
    refine wpG_take (i := 37) (oi := { dst := some 6, op := Op.assign (Operand.tmp 65), type := 4, pos := "law.go:89", after := #[{ on := 36, ground := Ground.data }, { on := 33, ground := Ground.chain }, { on := 0, ground := Ground.phase }, { on := 1, ground := Ground.phase }, { on := 2, ground := Ground.phase }, { on := 3, ground := Ground.phase }, { on := 4, ground := Ground.phase }, { on := 5, ground := Ground.phase }, { on := 6, ground := Ground.phase }, { on := 7, ground := Ground.phase }, { on := 8, ground := Ground.phase }, { on := 9, ground := Ground.phase }, { on := 10, ground := Ground.phase }, { on := 11, ground := Ground.phase }, { on := 12, ground := Ground.phase }, { on := 13, ground := Ground.phase }, { on := 14, ground := Ground.phase }, { on := 15, ground := Ground.phase }, { on := 16, ground := Ground.phase }, { on := 17, ground := Ground.phase }, { on := 18, ground := Ground.phase }, { on := 19, ground := Ground.phase }, { on := 20, ground := Ground.phase }, { on := 21, ground := Ground.phase }, { on := 22, ground := Ground.phase }, { on := 23, ground := Ground.phase }, { on := 24, ground := Ground.phase }, { on := 25, ground := Ground.phase }, { on := 26, ground := Ground.phase }, { on := 27, ground := Ground.phase }, { on := 28, ground := Ground.phase }, { on := 29, ground := Ground.phase }, { on := 30, ground := Ground.phase }, { on := 31, ground := Ground.phase }, { on := 32, ground := Ground.phase }, { on := 33, ground := Ground.phase }, { on := 34, ground := Ground.phase }, { on := 35, ground := Ground.phase }, { on := 36, ground := Ground.phase }], guard := none }) (v := ?_) rfl (by kernel_rfl) (by kernel_rfl) (by kernel_rfl) (by rfl) ?_ ?_
    rotate_left
    · intro W hW; first | (go_simp; done) | (go_simp; with_reducible rfl)
    try simp only [Act.put, List.setIfInBounds_toArray, List.set_cons_zero, List.set_cons_succ]
    refine wpG_done (by kernel_rfl) ?_
    go_wp2
    go_ret
    exact ⟨rfl, bstep hB2 hB9⟩
end Go.Proofs.Yticjhpclpealmaa
