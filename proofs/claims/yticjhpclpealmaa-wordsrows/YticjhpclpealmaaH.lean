/- The walk of the statement on two rows laid over one another, compared and joined, out of the contracts. -/
import Derived.Test.YticjhpclpealmaaF
import Derived.Test.YticjhpclpealmaaReg
namespace Go.Proofs.Yticjhpclpealmaa
open Go.ChangeShapes Go.WideShapes Go.ChangeAt Go.RowKit
set_option linter.unusedSimpArgs false
set_option linter.unusedVariables false

set_option maxHeartbeats 2500000 in
theorem rows_walk (va vb : Value) (la lb : List UInt8) (w : World) (hra : Rd w va la) (hrb : Rd w vb lb) :
    Calls Try.prog 4 #[va, vb] w fun e w' => e = .returned (.bool true) ∧ Below w.heap.size w w' := by
  obtain ⟨aa, capa, ea, ha2, ha3, _, _⟩ := id hra
  obtain ⟨ab, capb, eb, hb2, hb3, _, _⟩ := id hrb
  unfold maxLen at ha3 hb3
  have hcase : (2000 < (la.length : Int)) ∨ ((la.length : Int) ≤ 2000 ∧ 2000 < (lb.length : Int)) ∨ ((la.length : Int) ≤ 2000 ∧ (lb.length : Int) ≤ 2000) := by omega
  subst ea eb
  have Hra : Hid (Rd w (.slice aa la.length capa) la) := hra
  have Hrb : Hid (Rd w (.slice ab lb.length capb) lb) := hrb
  clear hra hrb
  rcases hcase with h1 | ⟨h1, h2⟩ | ⟨h1, h2⟩
  · go_enter Try.func4, Try.ntmps4
    go_wp2_with fail
    refine (awake_any _).mono ?_
    rintro e w1 ⟨rfl, hB1⟩
    go_wp2
    go_ret
    exact ⟨rfl, hB1⟩
  · go_enter Try.func4, Try.ntmps4
    go_wp2_with fail
    refine (awake_any _).mono ?_
    rintro e w1 ⟨rfl, hB1⟩
    go_wp2
    go_ret
    exact ⟨rfl, hB1⟩
  · go_enter Try.func4, Try.ntmps4
    go_wp2_with fail
    refine (awake_any _).mono ?_
    rintro e w1 ⟨rfl, hB1⟩
    have hra1 := Hra.out.kept hB1
    have hrb1 := Hrb.out.kept hB1
    have hca := conv_any hra1
    have hcb := conv_any hrb1
    go_wp2_with fail
    clear hca hcb
    refine (xor_any _ _ la lb _ hra1 hrb1 (by omega)).mono ?_
    rintro e w2 ⟨v8, rfl, hN8⟩
    have hra2 := hra1.kept hN8.2
    have hrb2 := hrb1.kept hN8.2
    have hB2 := bstep hB1 hN8.2
    go_wp2_with fail
    refine (join_any _ [.slice aa la.length capa, .slice ab lb.length capb] [la, lb] _ (RdL.lit _ _ rfl rfl (by simp) (by simp [maxLen]) rfl ?_) (by simp [totL]; omega)).mono ?_
    · intro i hi
      match i, hi with
      | 0, _ => exact hra2
      | 1, _ => exact hrb2
    rintro e w3 ⟨v9, rfl, hN9⟩
    have hB23 : Below w2.heap.size w2 w3 := bstep (below_alloc w2 _) hN9.2
    have hra3 := hra2.kept hB23
    have hrb3 := hrb2.kept hB23
    have hB3 := bstep hB2 hB23
    rw [show [la, lb].flatten = la ++ lb from by simp] at hN9
    have hx3 := hN8.rd.kept hB23
    have hy3 := hN9.rd
    have hs0 : ∀ a : List UInt8, (⟨a.toArray⟩ : ByteArray).toList = a := str_toList
    have hs1 := list_beq la lb
    have hs2 := str_cat la lb
    go_wp2_with fail
    refine wpG_begin (by kernel_rfl) ?_
    refine wpG_take (i := 0) (oi := { dst := some 35, op := Op.move (Operand.tmp 8), type := 22, pos := "law.go:36", after := #[], guard := none }) (v := ?_) rfl (by kernel_rfl) (by kernel_rfl) (by kernel_rfl) (by rfl) ?_ ?_
    rotate_left
    · intro W hW; first | (go_simp; done) | (go_simp; with_reducible rfl)
    try simp only [Act.put, List.setIfInBounds_toArray, List.set_cons_zero, List.set_cons_succ]
    refine wpG_take (i := 1) (oi := { dst := some 36, op := Op.convert 22 9 (Operand.tmp 35), type := 9, pos := "law.go:36", after := #[{ on := 0, ground := Ground.data }], guard := none }) (v := ?_) rfl (by kernel_rfl) (by kernel_rfl) (by kernel_rfl) (by rfl) ?_ ?_
    rotate_left
    · intro W hW; have hcv := conv_any (hx3.drew.kept hW); first | (go_simp; done) | (go_simp; with_reducible rfl)
    try simp only [Act.put, List.setIfInBounds_toArray, List.set_cons_zero, List.set_cons_succ]
    refine wpG_take (i := 2) (oi := { dst := some 37, op := Op.move (Operand.tmp 0), type := 22, pos := "law.go:36", after := #[], guard := none }) (v := ?_) rfl (by kernel_rfl) (by kernel_rfl) (by kernel_rfl) (by rfl) ?_ ?_
    rotate_left
    · intro W hW; first | (go_simp; done) | (go_simp; with_reducible rfl)
    try simp only [Act.put, List.setIfInBounds_toArray, List.set_cons_zero, List.set_cons_succ]
    refine wpG_take (i := 3) (oi := { dst := some 38, op := Op.move (Operand.tmp 1), type := 22, pos := "law.go:36", after := #[], guard := none }) (v := ?_) rfl (by kernel_rfl) (by kernel_rfl) (by kernel_rfl) (by rfl) ?_ ?_
    rotate_left
    · intro W hW; first | (go_simp; done) | (go_simp; with_reducible rfl)
    try simp only [Act.put, List.setIfInBounds_toArray, List.set_cons_zero, List.set_cons_succ]
    refine wpG_do (i := 4) (o := { dst := some 39, op := Op.call { callee := Callee.value (Operand.func 16), args := #[Operand.tmp 37, Operand.tmp 38], argTypes := #[22, 22] }, type := 22, pos := "law.go:36", after := #[{ on := 2, ground := Ground.data }, { on := 3, ground := Ground.data }], guard := none }) (by kernel_rfl) rfl (by rfl) fun K hK => ?_
    go_simp
    refine (refxor_any _ _ la lb _ (hra3.drew) (hrb3.drew) (by omega)).mono ?_
    rintro e w4 ⟨v4, rfl, hN4⟩
    have hB4 : Below w3.heap.size w3 w4 := bstep (Below.refl _ _).drew hN4.2
    have hy4 := hy3.drew.kept hN4.2
    refine hK.out _ _ hN4.2 ?_
    clear hK K
    try simp only [Act.put, List.setIfInBounds_toArray, List.set_cons_zero, List.set_cons_succ]
    refine wpG_take (i := 5) (oi := { dst := some 40, op := Op.convert 22 9 (Operand.tmp 39), type := 9, pos := "law.go:36", after := #[{ on := 4, ground := Ground.data }], guard := none }) (v := ?_) rfl (by kernel_rfl) (by kernel_rfl) (by kernel_rfl) (by rfl) ?_ ?_
    rotate_left
    · intro W hW; have hcv := conv_any (hN4.rd.kept hW); first | (go_simp; done) | (go_simp; with_reducible rfl)
    try simp only [Act.put, List.setIfInBounds_toArray, List.set_cons_zero, List.set_cons_succ]
    refine wpG_take (i := 6) (oi := { dst := some 41, op := Op.binOp BinOp.eql 9 (Operand.tmp 36) (Operand.tmp 40) 9, type := 4, pos := "law.go:36", after := #[{ on := 1, ground := Ground.data }, { on := 5, ground := Ground.data }], guard := none }) (v := ?_) rfl (by kernel_rfl) (by kernel_rfl) (by kernel_rfl) (by rfl) ?_ ?_
    rotate_left
    · intro W hW; first | (go_simp; done) | (go_simp; with_reducible rfl)
    try simp only [Act.put, List.setIfInBounds_toArray, List.set_cons_zero, List.set_cons_succ]
    refine wpG_take (i := 7) (oi := { dst := some 42, op := Op.move (Operand.tmp 41), type := 4, pos := "law.go:36", after := #[{ on := 6, ground := Ground.data }, { on := 4, ground := Ground.chain }], guard := none }) (v := ?_) rfl (by kernel_rfl) (by kernel_rfl) (by kernel_rfl) (by rfl) ?_ ?_
    rotate_left
    · intro W hW; first | (go_simp; done) | (go_simp; with_reducible rfl)
    try simp only [Act.put, List.setIfInBounds_toArray, List.set_cons_zero, List.set_cons_succ]
    refine wpG_take (i := 8) (oi := { dst := some 43, op := Op.move (Operand.tmp 9), type := 22, pos := "law.go:36", after := #[{ on := 7, ground := Ground.guard }], guard := some (7, true) }) (v := ?_) rfl (by kernel_rfl) (by kernel_rfl) (by kernel_rfl) (by rfl) ?_ ?_
    rotate_left
    · intro W hW; first | (go_simp; done) | (go_simp; with_reducible rfl)
    try simp only [Act.put, List.setIfInBounds_toArray, List.set_cons_zero, List.set_cons_succ]
    refine wpG_take (i := 9) (oi := { dst := some 44, op := Op.convert 22 9 (Operand.tmp 43), type := 9, pos := "law.go:36", after := #[{ on := 8, ground := Ground.data }, { on := 7, ground := Ground.guard }], guard := some (7, true) }) (v := ?_) rfl (by kernel_rfl) (by kernel_rfl) (by kernel_rfl) (by rfl) ?_ ?_
    rotate_left
    · intro W hW; have hcv := conv_any (hy4.kept hW); first | (go_simp; done) | (go_simp; with_reducible rfl)
    try simp only [Act.put, List.setIfInBounds_toArray, List.set_cons_zero, List.set_cons_succ]
    refine wpG_take (i := 10) (oi := { dst := some 45, op := Op.move (Operand.tmp 6), type := 9, pos := "law.go:36", after := #[{ on := 7, ground := Ground.guard }], guard := some (7, true) }) (v := ?_) rfl (by kernel_rfl) (by kernel_rfl) (by kernel_rfl) (by rfl) ?_ ?_
    rotate_left
    · intro W hW; first | (go_simp; done) | (go_simp; with_reducible rfl)
    try simp only [Act.put, List.setIfInBounds_toArray, List.set_cons_zero, List.set_cons_succ]
    refine wpG_take (i := 11) (oi := { dst := some 46, op := Op.move (Operand.tmp 7), type := 9, pos := "law.go:36", after := #[{ on := 7, ground := Ground.guard }], guard := some (7, true) }) (v := ?_) rfl (by kernel_rfl) (by kernel_rfl) (by kernel_rfl) (by rfl) ?_ ?_
    rotate_left
    · intro W hW; first | (go_simp; done) | (go_simp; with_reducible rfl)
    try simp only [Act.put, List.setIfInBounds_toArray, List.set_cons_zero, List.set_cons_succ]
    refine wpG_take (i := 12) (oi := { dst := some 47, op := Op.binOp BinOp.add 9 (Operand.tmp 45) (Operand.tmp 46) 9, type := 9, pos := "law.go:36", after := #[{ on := 10, ground := Ground.data }, { on := 11, ground := Ground.data }, { on := 7, ground := Ground.guard }], guard := some (7, true) }) (v := ?_) rfl (by kernel_rfl) (by kernel_rfl) (by kernel_rfl) (by rfl) ?_ ?_
    rotate_left
    · intro W hW; have hadd := run_string_add_lists (P := Try.prog) W la lb (by omega) (by omega); first | (go_simp; done) | (go_simp; with_reducible rfl)
    try simp only [Act.put, List.setIfInBounds_toArray, List.set_cons_zero, List.set_cons_succ]
    refine wpG_take (i := 13) (oi := { dst := some 48, op := Op.binOp BinOp.eql 9 (Operand.tmp 44) (Operand.tmp 47) 9, type := 4, pos := "law.go:36", after := #[{ on := 9, ground := Ground.data }, { on := 12, ground := Ground.data }, { on := 7, ground := Ground.guard }], guard := some (7, true) }) (v := ?_) rfl (by kernel_rfl) (by kernel_rfl) (by kernel_rfl) (by rfl) ?_ ?_
    rotate_left
    · intro W hW; first | (go_simp; done) | (go_simp; with_reducible rfl)
    try simp only [Act.put, List.setIfInBounds_toArray, List.set_cons_zero, List.set_cons_succ]
    refine wpG_take (i := 14) (oi := { dst := some 49, op := Op.pick (Operand.tmp 42) (Operand.tmp 48) (Operand.const (Value.bool false)), type := 4, pos := "law.go:36", after := #[{ on := 7, ground := Ground.data }, { on := 13, ground := Ground.data }], guard := none }) (v := ?_) rfl (by kernel_rfl) (by kernel_rfl) (by kernel_rfl) (by rfl) ?_ ?_
    rotate_left
    · intro W hW; first | (go_simp; done) | (go_simp; with_reducible rfl)
    try simp only [Act.put, List.setIfInBounds_toArray, List.set_cons_zero, List.set_cons_succ]
    refine wpG_take (i := 15) (oi := { dst := some 50, op := Op.move (Operand.tmp 49), type := 4, pos := "law.go:36", after := #[{ on := 14, ground := Ground.data }, { on := 7, ground := Ground.chain }], guard := none }) (v := ?_) rfl (by kernel_rfl) (by kernel_rfl) (by kernel_rfl) (by rfl) ?_ ?_
    rotate_left
    · intro W hW; first | (go_simp; done) | (go_simp; with_reducible rfl)
    try simp only [Act.put, List.setIfInBounds_toArray, List.set_cons_zero, List.set_cons_succ]
    refine wpG_take (i := 16) (oi := { dst := some 51, op := Op.move (Operand.tmp 0), type := 22, pos := "law.go:36", after := #[{ on := 15, ground := Ground.guard }], guard := some (15, true) }) (v := ?_) rfl (by kernel_rfl) (by kernel_rfl) (by kernel_rfl) (by rfl) ?_ ?_
    rotate_left
    · intro W hW; first | (go_simp; done) | (go_simp; with_reducible rfl)
    try simp only [Act.put, List.setIfInBounds_toArray, List.set_cons_zero, List.set_cons_succ]
    refine wpG_take (i := 17) (oi := { dst := some 52, op := Op.move (Operand.tmp 1), type := 22, pos := "law.go:36", after := #[{ on := 15, ground := Ground.guard }], guard := some (15, true) }) (v := ?_) rfl (by kernel_rfl) (by kernel_rfl) (by kernel_rfl) (by rfl) ?_ ?_
    rotate_left
    · intro W hW; first | (go_simp; done) | (go_simp; with_reducible rfl)
    try simp only [Act.put, List.setIfInBounds_toArray, List.set_cons_zero, List.set_cons_succ]
    refine wpG_take (i := 19) (oi := { dst := some 54, op := Op.move (Operand.tmp 6), type := 9, pos := "law.go:36", after := #[{ on := 15, ground := Ground.guard }], guard := some (15, true) }) (v := ?_) rfl (by kernel_rfl) (by kernel_rfl) (by kernel_rfl) (by rfl) ?_ ?_
    rotate_left
    · intro W hW; first | (go_simp; done) | (go_simp; with_reducible rfl)
    try simp only [Act.put, List.setIfInBounds_toArray, List.set_cons_zero, List.set_cons_succ]
    refine wpG_take (i := 20) (oi := { dst := some 55, op := Op.move (Operand.tmp 7), type := 9, pos := "law.go:36", after := #[{ on := 15, ground := Ground.guard }], guard := some (15, true) }) (v := ?_) rfl (by kernel_rfl) (by kernel_rfl) (by kernel_rfl) (by rfl) ?_ ?_
    rotate_left
    · intro W hW; first | (go_simp; done) | (go_simp; with_reducible rfl)
    try simp only [Act.put, List.setIfInBounds_toArray, List.set_cons_zero, List.set_cons_succ]
    refine wpG_take (i := 21) (oi := { dst := some 56, op := Op.binOp BinOp.eql 9 (Operand.tmp 54) (Operand.tmp 55) 9, type := 4, pos := "law.go:36", after := #[{ on := 19, ground := Ground.data }, { on := 20, ground := Ground.data }, { on := 15, ground := Ground.guard }], guard := some (15, true) }) (v := ?_) rfl (by kernel_rfl) (by kernel_rfl) (by kernel_rfl) (by rfl) ?_ ?_
    rotate_left
    · intro W hW; first | (go_simp; done) | (go_simp; with_reducible rfl)
    try simp only [Act.put, List.setIfInBounds_toArray, List.set_cons_zero, List.set_cons_succ]
    refine wpG_do (i := 18) (o := { dst := some 53, op := Op.call { callee := Callee.value (Operand.func 17), args := #[Operand.tmp 51, Operand.tmp 52], argTypes := #[22, 22] }, type := 4, pos := "law.go:36", after := #[{ on := 16, ground := Ground.data }, { on := 17, ground := Ground.data }, { on := 15, ground := Ground.chain }, { on := 15, ground := Ground.guard }], guard := some (15, true) }) (by kernel_rfl) rfl (by rfl) fun K hK => ?_
    go_simp
    refine (equal_any _ _ la lb _ (hra3.kept hB4) (hrb3.kept hB4)).mono ?_
    rintro e w5 ⟨rfl, hE5⟩
    refine hK.out _ _ hE5 ?_
    clear hK K
    have hB5 : Below w3.heap.size w3 w5 := bstep hB4 hE5
    clear hE5
    try simp only [Act.put, List.setIfInBounds_toArray, List.set_cons_zero, List.set_cons_succ]
    refine wpG_take (i := 22) (oi := { dst := some 57, op := Op.binOp BinOp.eql 4 (Operand.tmp 53) (Operand.tmp 56) 4, type := 4, pos := "law.go:36", after := #[{ on := 18, ground := Ground.data }, { on := 21, ground := Ground.data }, { on := 15, ground := Ground.guard }], guard := some (15, true) }) (v := ?_) rfl (by kernel_rfl) (by kernel_rfl) (by kernel_rfl) (by rfl) ?_ ?_
    rotate_left
    · intro W hW; first | (go_simp; done) | (go_simp; with_reducible rfl)
    try simp only [Act.put, List.setIfInBounds_toArray, List.set_cons_zero, List.set_cons_succ]
    refine wpG_take (i := 23) (oi := { dst := some 58, op := Op.pick (Operand.tmp 50) (Operand.tmp 57) (Operand.const (Value.bool false)), type := 4, pos := "law.go:36", after := #[{ on := 15, ground := Ground.data }, { on := 22, ground := Ground.data }], guard := none }) (v := ?_) rfl (by kernel_rfl) (by kernel_rfl) (by kernel_rfl) (by rfl) ?_ ?_
    rotate_left
    · intro W hW; first | (go_simp; done) | (go_simp; with_reducible rfl)
    try simp only [Act.put, List.setIfInBounds_toArray, List.set_cons_zero, List.set_cons_succ]
    refine wpG_take (i := 24) (oi := { dst := some 10, op := Op.assign (Operand.tmp 58), type := 4, pos := "law.go:36", after := #[{ on := 23, ground := Ground.data }, { on := 18, ground := Ground.chain }, { on := 0, ground := Ground.phase }, { on := 1, ground := Ground.phase }, { on := 2, ground := Ground.phase }, { on := 3, ground := Ground.phase }, { on := 4, ground := Ground.phase }, { on := 5, ground := Ground.phase }, { on := 6, ground := Ground.phase }, { on := 7, ground := Ground.phase }, { on := 8, ground := Ground.phase }, { on := 9, ground := Ground.phase }, { on := 10, ground := Ground.phase }, { on := 11, ground := Ground.phase }, { on := 12, ground := Ground.phase }, { on := 13, ground := Ground.phase }, { on := 14, ground := Ground.phase }, { on := 15, ground := Ground.phase }, { on := 16, ground := Ground.phase }, { on := 17, ground := Ground.phase }, { on := 18, ground := Ground.phase }, { on := 19, ground := Ground.phase }, { on := 20, ground := Ground.phase }, { on := 21, ground := Ground.phase }, { on := 22, ground := Ground.phase }, { on := 23, ground := Ground.phase }], guard := none }) (v := ?_) rfl (by kernel_rfl) (by kernel_rfl) (by kernel_rfl) (by rfl) ?_ ?_
    rotate_left
    · intro W hW; first | (go_simp; done) | (go_simp; with_reducible rfl)
    try simp only [Act.put, List.setIfInBounds_toArray, List.set_cons_zero, List.set_cons_succ]
    refine wpG_done (by kernel_rfl) ?_
    have hN8x := hN8.1
    have hlt8 := fun k hk => (hN8.1.lt k hk).2
    obtain ⟨a8, cap8, e8, hx2, hx3', _, _⟩ := hN8.rd
    subst e8
    obtain ⟨a9, cap9, e9, hy2, hy3', _, _⟩ := hN9.rd
    subst e9
    have hOx : w5.ownsRow w1.heap.size 5 1 (.slice a8 (xorL la lb).length cap8) (xorL la lb).length ((xorL la lb).map bv) := ownsRow_below hN8.1 (bstep hB23 hB5)
    have hOy : w5.ownsRow (w2.heap.size + 1) 5 1 (.slice a9 (la ++ lb).length cap9) (la ++ lb).length ((la ++ lb).map bv) := ownsRow_below (by simpa using hN9.1) hB5
    have hBx : Below w1.heap.size w1 w5 := bstep hN8.2 (bstep hB23 hB5)
    have HB1 : Hid (Below w.heap.size w w1) := hB1
    have hsz12 : w1.heap.size ≤ w2.heap.size := hN8.2.size
    obtain ⟨n, hn⟩ : ∃ n, n = (xorL la lb).length := ⟨_, rfl⟩
    obtain ⟨m, hm⟩ : ∃ m, m = (la ++ lb).length := ⟨_, rfl⟩
    have hnb : n ≤ 2000 := by rw [hn, xorL_length]; omega
    have hmb : m ≤ 4000 := by rw [hm, List.length_append]; omega
    rw [← hn] at hlt8 hx2
    rw [← hm] at hy2
    have hOx' : ∃ l' : List UInt8, l'.length = n ∧ w5.ownsRow w1.heap.size 5 1 (.slice a8 n cap8) l'.length (l'.map bv) := ⟨_, hn.symm, by rw [hn]; exact hOx⟩
    have hOy' : ∃ l' : List UInt8, l'.length = m ∧ w5.ownsRow (w2.heap.size + 1) 5 1 (.slice a9 m cap9) l'.length (l'.map bv) := ⟨_, hm.symm, by rw [hm]; exact hOy⟩
    rw [← hn, ← hm]
    clear hOx hOy hN8 hN9 hra1 hrb1 hra2 hrb2 hra3 hrb3 hx3 hy3 hB2 hB3 hB23 hB4 hB5 hN4 hy4 hs1 hs2 hN8x hn hm hB1
    go_wp2_with fail
    go_loopw [11] (fun i wr => ∃ j : Nat, j ≤ n ∧ i = .int .i64 j ∧ (∃ l' : List UInt8, l'.length = n ∧ wr.ownsRow w1.heap.size 5 1 (.slice a8 n cap8) l'.length (l'.map bv)) ∧ (∃ l' : List UInt8, l'.length = m ∧ wr.ownsRow (w2.heap.size + 1) 5 1 (.slice a9 m cap9) l'.length (l'.map bv)) ∧ Below w1.heap.size w1 wr) (fun i _ => n - (intOf i).toNat)
    case atStart => exact ⟨0, Nat.zero_le _, rfl, hOx', hOy', hBx⟩
    case round =>
      obtain ⟨j, hj, rfl, ⟨l1, hl1, ho1⟩, ⟨l2, hl2, ho2⟩, hBr⟩ := hrel
      by_cases hlt : j < n
      · obtain ⟨g, ea, hg, hcap, hc, hf, hst⟩ := own_at (by rw [hl1]) ho1 hlt
        have hgl := hlt8 g (by rw [ea]; rfl)
        subst ea
        generalize l1.getD j 0 = x at hc
        have HX : Hid _ := byte_xor x 255
        have HST : Hid _ := hst
        clear hst ho1 hOx' hOy' hlt8
        go_wp2
        go_roundw
        case rel =>
          refine ⟨j + 1, by omega, by go_num, ⟨l1.set j (x ^^^ 255), by simp [hl1], HST.out _ _ (by simpa using HX.out)⟩, ⟨l2, hl2, ownsRow_setCell_below ho2 (by show g < _; omega) _⟩, hBr.setCell hg _⟩
        case measure => simp [intOf]; omega
      · clear hOx' hOy'
        go_wp2_with fail
        go_loopw [12] (fun i wr => ∃ j : Nat, j ≤ m ∧ i = .int .i64 j ∧ (∃ l' : List UInt8, l'.length = m ∧ wr.ownsRow (w2.heap.size + 1) 5 1 (.slice a9 m cap9) l'.length (l'.map bv)) ∧ Below w1.heap.size w1 wr) (fun i _ => m - (intOf i).toNat)
        case atStart => exact ⟨0, Nat.zero_le _, rfl, ⟨l2, hl2, ho2⟩, hBr⟩
        case round =>
          obtain ⟨j2, hj2, rfl, ⟨l3, hl3, ho3⟩, hBr2⟩ := hrel
          by_cases hlt2 : j2 < m
          · obtain ⟨g, ea, hg, hcap, hc, hf, hst⟩ := own_at (by rw [hl3]) ho3 hlt2
            subst ea
            generalize l3.getD j2 0 = x at hc
            have HX : Hid _ := byte_xor x 255
            have HST : Hid _ := hst
            clear hst ho3 ho1 ho2
            go_wp2
            go_roundw
            case rel =>
              refine ⟨j2 + 1, by omega, by go_num, ⟨l3.set j2 (x ^^^ 255), by simp [hl3], HST.out _ _ (by simpa using HX.out)⟩, hBr2.setCell (p := ⟨g, j2, none⟩) (by show w1.heap.size ≤ g; omega) _⟩
            case measure => simp [intOf]; omega
          · have hca := conv_any ((Hra.out.kept HB1.out).kept hBr2)
            have hcb := conv_any ((Hrb.out.kept HB1.out).kept hBr2)
            clear ho3 ho1 ho2
            go_wp2
            go_ret
            exact ⟨rfl, bstep HB1.out hBr2⟩
end Go.Proofs.Yticjhpclpealmaa
