/- What the law FieldInverts answers at every input: the walk. -/
import Derived.Test.YtikkfmghjfddfaaF05j
namespace Go.Proofs.Ytikkfmghjfddfaa
open Go.ChangeShapes Go.WideShapes Go.ChangeAt Go.RowKit
set_option linter.unusedSimpArgs false
set_option linter.unusedVariables false

theorem inv_prod (x y z : Nat) (h : y % pN = x ^ exN % pN) (h2 : z % pN = y * x % pN) : z % pN = x ^ exN * x % pN := by
  rw [h2, Nat.mul_mod, h, ← Nat.mul_mod]

set_option maxRecDepth 100000 in
set_option maxHeartbeats 4000000 in
theorem inverts_zero (Aa : Array Value) (a : List Nat) (ha : El4 a) (hA : Aa = ((nI a).map (Value.int .u64)).toArray) (hz : decide (wv a % pN = 0 % pN) = true) (w : World) :
    Calls Try.prog 7 #[.agg Aa] w fun e w' => e = .returned (.bool true) ∧ Below w.heap.size w w' := by
  have HZ : Hid (decide (wv a % pN = 0 % pN) = true) := hz
  clear hz
  go_enter Try.func7, Try.ntmps7
  go_wp2_with (refine wpList_box_row (k := .u64) rfl 24 _ rfl (nI a) (by rw [← hA]; rfl) ha.ne (elMax ha) ?_)
  intro w1 ra b1 s1
  rw [ha.len] at ra
  have hbw := b1
  clear b1 hA s1
  go_wp2_with fail
  refine (awake_any _).mono ?_
  rintro e wa ⟨rfl, bn⟩
  replace ra := ra.kept bn
  replace hbw := stepB hbw bn
  clear bn
  go_wp2_with (refine wpList_load_row rfl 24 _ rfl rfl ra _ Try.underlying24 rfl (arInfo ha) ?_)
  refine (numR_any _ a ha.1 ha.2 rfl _).mono ?_
  rintro e w3 ⟨v3, rfl, hRa, bn⟩
  replace ra := ra.kept bn
  replace hbw := stepB hbw bn
  clear bn
  go_wp2_with (refine wpList_load_row rfl 24 _ rfl rfl ra _ Try.underlying24 rfl (arInfo ha) ?_)
  refine (finvert_any _ a ha rfl _).mono ?_
  rintro e w4 ⟨l4, rfl, h4, hv4, bn⟩
  have HV4 : Hid _ := hv4
  replace ra := ra.kept bn
  replace hRa := hRa.kept bn
  replace hbw := stepB hbw bn
  clear bn hv4
  go_wp2_with (refine wpList_alloc_row (k := .u64) rfl 27 rfl (nI z4) (alloc_el _) z4_el.ne (elMax z4_el) ?_)
  intro w5 r5 bn s5
  rw [z4_el.len] at r5
  clear s5
  have hz4 := hbw.size
  go_wp2_with (refine wpList_store_row rfl 27 _ _ rfl (nI l4) rfl rfl r5 (by rw [z4_el.len, h4.len]) (elInfo z4_el) ?_)
  intro w6 r6 hw6
  replace bn : Below w4.heap.size w4 w6 := hw6.below _ _ (Nat.le_refl _) bn
  replace ra := ra.kept bn
  replace hRa := hRa.kept bn
  replace hbw := stepB hbw bn
  clear bn r5 hw6
  go_wp2_with (first | refine wpList_load_row rfl 27 _ rfl rfl r6 _ Try.underlying27 rfl (elInfo h4) ?_ | refine wpList_load_row rfl 24 _ rfl rfl ra _ Try.underlying24 rfl (arInfo ha) ?_)
  refine (fmul_any _ _ l4 a h4 ha rfl rfl _).mono ?_
  rintro e w7 ⟨l7, rfl, h7, hv7, bn⟩
  have HV7 : Hid _ := inv_prod _ _ _ HV4.out hv7
  replace ra := ra.kept bn
  replace r6 := r6.kept bn
  replace hRa := hRa.kept bn
  replace hbw := stepB hbw bn
  clear bn hv7
  go_wp2_with (refine wpList_alloc_row (k := .u64) rfl 27 rfl (nI z4) (alloc_el _) z4_el.ne (elMax z4_el) ?_)
  intro w8 r8 bn s8
  rw [z4_el.len] at r8
  clear s8
  go_wp2_with (refine wpList_store_row rfl 27 _ _ rfl (nI l7) rfl rfl r8 (by rw [z4_el.len, h7.len]) (elInfo z4_el) ?_)
  intro w9 r9 hw9
  replace bn : Below w7.heap.size w7 w9 := hw9.below _ _ (Nat.le_refl _) bn
  replace ra := ra.kept bn
  replace r6 := r6.kept bn
  replace hRa := hRa.kept bn
  replace hbw := stepB hbw bn
  clear bn r8 hw9
  go_wp2_with fail
  refine (smallR_any 0 (by omega) _ rfl _).mono ?_
  rintro e w10 ⟨v10, rfl, hR10, bn⟩
  replace r6 := r6.kept bn
  replace r9 := r9.kept bn
  replace hRa := hRa.kept bn
  replace hbw := stepB hbw bn
  clear bn ra
  go_wp2_with fail
  refine (sameR_any _ _ _ _ _ hRa hR10).mono ?_
  rintro e w11 ⟨rfl, bn⟩
  rw [HZ.out]
  replace r6 := r6.kept bn
  replace r9 := r9.kept bn
  replace hRa := hRa.kept bn
  replace hbw := stepB hbw bn
  clear bn hR10
  have HI : Hid (wv l7 % pN = 0 % pN) := by
    show _ = _
    rw [HV7.out]
    exact inv_zero _ (by have := of_decide_eq_true HZ.out; rw [this]; rfl)
  go_wp2_with fail
  have hB : Below w11.heap.size w11 w11.drew := (Below.refl _ _).drew
  refine wpB_begin (Below.refl w11.heap.size w11) (by kernel_rfl) ?_
  refine wpB_take (hb := hB) (i := 0) (oi := { dst := some 21, op := Op.load 27 (Operand.tmp 5), type := 27, pos := "law.go:77", after := #[], guard := none }) (v := ?_) rfl (by kernel_rfl) (by kernel_rfl) (by kernel_rfl) (by rfl) ?_ ?_
  rotate_left
  · intro W hW; refine Eq.trans (exec_load_row' 27 _ (by rfl) (by rfl) r6 hW _ Try.underlying27 rfl (elInfo h4)) ?_; with_reducible rfl
  try simp only [Act.put, List.setIfInBounds_toArray, List.set_cons_zero, List.set_cons_succ]
  refine wpB_take (hb := hB) (i := 1) (oi := { dst := some 22, op := Op.move (Operand.tmp 4), type := 29, pos := "law.go:77", after := #[], guard := none }) (v := ?_) rfl (by kernel_rfl) (by kernel_rfl) (by kernel_rfl) (by rfl) ?_ ?_
  rotate_left
  · intro W hW; first | (go_simp; done) | (go_simp; with_reducible rfl)
  try simp only [Act.put, List.setIfInBounds_toArray, List.set_cons_zero, List.set_cons_succ]
  refine wpB_do (i := 2) (o := { dst := some 23, op := Op.call { callee := Callee.value (Operand.func 25), args := #[Operand.tmp 22], argTypes := #[29] }, type := 29, pos := "law.go:77", after := #[{ on := 1, ground := Ground.data }], guard := none }) (by kernel_rfl) rfl (by rfl) fun K hK => ?_
  go_simp
  refine (powerR_any _ _ _ hRa.drew).mono ?_
  rintro e w12 ⟨v12, rfl, hR12, b12⟩
  replace hB := stepB hB b12
  refine hK.out _ _ hB ?_
  clear hK K
  try simp only [Act.put, List.setIfInBounds_toArray, List.set_cons_zero, List.set_cons_succ]
  refine wpB_do (i := 3) (o := { dst := some 24, op := Op.call { callee := Callee.value (Operand.func 10), args := #[Operand.tmp 21, Operand.tmp 23], argTypes := #[27, 29] }, type := 4, pos := "law.go:77", after := #[{ on := 0, ground := Ground.data }, { on := 2, ground := Ground.data }, { on := 2, ground := Ground.chain }], guard := none }) (by kernel_rfl) rfl (by rfl) fun K hK => ?_
  go_simp
  refine (is_true _ l4 _ _ h4 HV4.out rfl _ hR12).mono ?_
  rintro e w13 ⟨rfl, b13⟩
  replace hB := stepB hB b13
  refine hK.out _ _ hB ?_
  clear hK K
  try simp only [Act.put, List.setIfInBounds_toArray, List.set_cons_zero, List.set_cons_succ]
  refine wpB_take (hb := hB) (i := 4) (oi := { dst := some 25, op := Op.move (Operand.tmp 24), type := 4, pos := "law.go:77", after := #[{ on := 3, ground := Ground.data }, { on := 3, ground := Ground.chain }], guard := none }) (v := ?_) rfl (by kernel_rfl) (by kernel_rfl) (by kernel_rfl) (by rfl) ?_ ?_
  rotate_left
  · intro W hW; first | (go_simp; done) | (go_simp; with_reducible rfl)
  try simp only [Act.put, List.setIfInBounds_toArray, List.set_cons_zero, List.set_cons_succ]
  refine wpB_take (hb := hB) (i := 5) (oi := { dst := some 26, op := Op.move (Operand.tmp 7), type := 4, pos := "law.go:77", after := #[{ on := 4, ground := Ground.guard }], guard := some (4, true) }) (v := ?_) rfl (by kernel_rfl) (by kernel_rfl) (by kernel_rfl) (by rfl) ?_ ?_
  rotate_left
  · intro W hW; first | (go_simp; done) | (go_simp; with_reducible rfl)
  try simp only [Act.put, List.setIfInBounds_toArray, List.set_cons_zero, List.set_cons_succ]
  refine wpB_take (hb := hB) (i := 6) (oi := { dst := some 27, op := Op.move (Operand.tmp 26), type := 4, pos := "law.go:77", after := #[{ on := 5, ground := Ground.data }, { on := 4, ground := Ground.chain }, { on := 4, ground := Ground.guard }], guard := some (4, true) }) (v := ?_) rfl (by kernel_rfl) (by kernel_rfl) (by kernel_rfl) (by rfl) ?_ ?_
  rotate_left
  · intro W hW; first | (go_simp; done) | (go_simp; with_reducible rfl)
  try simp only [Act.put, List.setIfInBounds_toArray, List.set_cons_zero, List.set_cons_succ]
  refine wpB_take (hb := hB) (i := 7) (oi := { dst := some 28, op := Op.load 27 (Operand.tmp 6), type := 27, pos := "law.go:77", after := #[{ on := 6, ground := Ground.guard }], guard := some (6, true) }) (v := ?_) rfl (by kernel_rfl) (by kernel_rfl) (by kernel_rfl) (by rfl) ?_ ?_
  rotate_left
  · intro W hW; refine Eq.trans (exec_load_row' 27 _ (by rfl) (by rfl) r9 hW _ Try.underlying27 rfl (elInfo h7)) ?_; with_reducible rfl
  try simp only [Act.put, List.setIfInBounds_toArray, List.set_cons_zero, List.set_cons_succ]
  refine wpB_do (i := 8) (o := { dst := some 29, op := Op.call { callee := Callee.value (Operand.func 21), args := #[Operand.const (Value.int IntKind.i64 0)], argTypes := #[3] }, type := 29, pos := "law.go:77", after := #[{ on := 6, ground := Ground.chain }, { on := 6, ground := Ground.guard }], guard := some (6, true) }) (by kernel_rfl) rfl (by rfl) fun K hK => ?_
  go_simp
  refine (smallR_any 0 (by omega) _ rfl _).mono ?_
  rintro e w14 ⟨v14, rfl, hR14, b14⟩
  replace hB := stepB hB b14
  refine hK.out _ _ hB ?_
  clear hK K
  try simp only [Act.put, List.setIfInBounds_toArray, List.set_cons_zero, List.set_cons_succ]
  refine wpB_do (i := 9) (o := { dst := some 30, op := Op.call { callee := Callee.value (Operand.func 10), args := #[Operand.tmp 28, Operand.tmp 29], argTypes := #[27, 29] }, type := 4, pos := "law.go:77", after := #[{ on := 7, ground := Ground.data }, { on := 8, ground := Ground.data }, { on := 8, ground := Ground.chain }, { on := 6, ground := Ground.guard }], guard := some (6, true) }) (by kernel_rfl) rfl (by rfl) fun K hK => ?_
  go_simp
  refine (is_true _ l7 _ _ h7 HI.out rfl _ hR14).mono ?_
  rintro e w15 ⟨rfl, b15⟩
  replace hB := stepB hB b15
  refine hK.out _ _ hB ?_
  clear hK K
  try simp only [Act.put, List.setIfInBounds_toArray, List.set_cons_zero, List.set_cons_succ]
  refine wpB_take (hb := hB) (i := 10) (oi := { dst := some 31, op := Op.pick (Operand.tmp 27) (Operand.tmp 30) (Operand.const (Value.bool false)), type := 4, pos := "law.go:77", after := #[{ on := 6, ground := Ground.data }, { on := 9, ground := Ground.data }, { on := 4, ground := Ground.guard }], guard := some (4, true) }) (v := ?_) rfl (by kernel_rfl) (by kernel_rfl) (by kernel_rfl) (by rfl) ?_ ?_
  rotate_left
  · intro W hW; first | (go_simp; done) | (go_simp; with_reducible rfl)
  try simp only [Act.put, List.setIfInBounds_toArray, List.set_cons_zero, List.set_cons_succ]
  refine wpB_take (hb := hB) (i := 11) (oi := { dst := some 32, op := Op.move (Operand.tmp 31), type := 4, pos := "law.go:77", after := #[{ on := 10, ground := Ground.data }, { on := 9, ground := Ground.chain }, { on := 4, ground := Ground.guard }], guard := some (4, true) }) (v := ?_) rfl (by kernel_rfl) (by kernel_rfl) (by kernel_rfl) (by rfl) ?_ ?_
  rotate_left
  · intro W hW; first | (go_simp; done) | (go_simp; with_reducible rfl)
  try simp only [Act.put, List.setIfInBounds_toArray, List.set_cons_zero, List.set_cons_succ]
  refine wpB_skip (hb := hB) (i := 12) (oi := { dst := some 33, op := Op.move (Operand.tmp 7), type := 4, pos := "law.go:77", after := #[{ on := 11, ground := Ground.guard }], guard := some (11, false) }) rfl (by kernel_rfl) (by kernel_rfl) (by kernel_rfl) (by rfl) ?_
  try simp only [Act.put, List.setIfInBounds_toArray, List.set_cons_zero, List.set_cons_succ]
  refine wpB_skip (hb := hB) (i := 13) (oi := { dst := some 34, op := Op.unOp UnOp.not 4 (Operand.tmp 33), type := 4, pos := "law.go:77", after := #[{ on := 12, ground := Ground.data }, { on := 11, ground := Ground.guard }], guard := some (11, false) }) rfl (by kernel_rfl) (by kernel_rfl) (by kernel_rfl) (by rfl) ?_
  try simp only [Act.put, List.setIfInBounds_toArray, List.set_cons_zero, List.set_cons_succ]
  refine wpB_skip (hb := hB) (i := 14) (oi := { dst := some 35, op := Op.move (Operand.tmp 34), type := 4, pos := "law.go:77", after := #[{ on := 13, ground := Ground.data }, { on := 11, ground := Ground.chain }, { on := 11, ground := Ground.guard }], guard := some (11, false) }) rfl (by kernel_rfl) (by kernel_rfl) (by kernel_rfl) (by rfl) ?_
  try simp only [Act.put, List.setIfInBounds_toArray, List.set_cons_zero, List.set_cons_succ]
  refine wpB_skip (hb := hB) (i := 15) (oi := { dst := some 36, op := Op.load 27 (Operand.tmp 6), type := 27, pos := "law.go:77", after := #[{ on := 14, ground := Ground.guard }], guard := some (14, true) }) rfl (by kernel_rfl) (by kernel_rfl) (by kernel_rfl) (by rfl) ?_
  try simp only [Act.put, List.setIfInBounds_toArray, List.set_cons_zero, List.set_cons_succ]
  refine wpB_skip (hb := hB) (i := 16) (oi := { dst := some 37, op := Op.call { callee := Callee.value (Operand.func 21), args := #[Operand.const (Value.int IntKind.i64 1)], argTypes := #[3] }, type := 29, pos := "law.go:77", after := #[{ on := 14, ground := Ground.chain }, { on := 14, ground := Ground.guard }], guard := some (14, true) }) rfl (by kernel_rfl) (by kernel_rfl) (by kernel_rfl) (by rfl) ?_
  try simp only [Act.put, List.setIfInBounds_toArray, List.set_cons_zero, List.set_cons_succ]
  refine wpB_skip (hb := hB) (i := 17) (oi := { dst := some 38, op := Op.call { callee := Callee.value (Operand.func 10), args := #[Operand.tmp 36, Operand.tmp 37], argTypes := #[27, 29] }, type := 4, pos := "law.go:77", after := #[{ on := 15, ground := Ground.data }, { on := 16, ground := Ground.data }, { on := 16, ground := Ground.chain }, { on := 14, ground := Ground.guard }], guard := some (14, true) }) rfl (by kernel_rfl) (by kernel_rfl) (by kernel_rfl) (by rfl) ?_
  try simp only [Act.put, List.setIfInBounds_toArray, List.set_cons_zero, List.set_cons_succ]
  refine wpB_skip (hb := hB) (i := 18) (oi := { dst := some 39, op := Op.pick (Operand.tmp 35) (Operand.tmp 38) (Operand.const (Value.bool false)), type := 4, pos := "law.go:77", after := #[{ on := 14, ground := Ground.data }, { on := 17, ground := Ground.data }, { on := 11, ground := Ground.guard }], guard := some (11, false) }) rfl (by kernel_rfl) (by kernel_rfl) (by kernel_rfl) (by rfl) ?_
  try simp only [Act.put, List.setIfInBounds_toArray, List.set_cons_zero, List.set_cons_succ]
  refine wpB_take (hb := hB) (i := 19) (oi := { dst := some 40, op := Op.pick (Operand.tmp 32) (Operand.const (Value.bool true)) (Operand.tmp 39), type := 4, pos := "law.go:77", after := #[{ on := 11, ground := Ground.data }, { on := 18, ground := Ground.data }, { on := 4, ground := Ground.guard }], guard := some (4, true) }) (v := ?_) rfl (by kernel_rfl) (by kernel_rfl) (by kernel_rfl) (by rfl) ?_ ?_
  rotate_left
  · intro W hW; first | (go_simp; done) | (go_simp; with_reducible rfl)
  try simp only [Act.put, List.setIfInBounds_toArray, List.set_cons_zero, List.set_cons_succ]
  refine wpB_take (hb := hB) (i := 20) (oi := { dst := some 41, op := Op.pick (Operand.tmp 25) (Operand.tmp 40) (Operand.const (Value.bool false)), type := 4, pos := "law.go:77", after := #[{ on := 4, ground := Ground.data }, { on := 19, ground := Ground.data }], guard := none }) (v := ?_) rfl (by kernel_rfl) (by kernel_rfl) (by kernel_rfl) (by rfl) ?_ ?_
  rotate_left
  · intro W hW; first | (go_simp; done) | (go_simp; with_reducible rfl)
  try simp only [Act.put, List.setIfInBounds_toArray, List.set_cons_zero, List.set_cons_succ]
  refine wpB_take (hb := hB) (i := 21) (oi := { dst := some 2, op := Op.assign (Operand.tmp 41), type := 4, pos := "law.go:77", after := #[{ on := 20, ground := Ground.data }, { on := 17, ground := Ground.chain }, { on := 0, ground := Ground.phase }, { on := 1, ground := Ground.phase }, { on := 2, ground := Ground.phase }, { on := 3, ground := Ground.phase }, { on := 4, ground := Ground.phase }, { on := 5, ground := Ground.phase }, { on := 6, ground := Ground.phase }, { on := 7, ground := Ground.phase }, { on := 8, ground := Ground.phase }, { on := 9, ground := Ground.phase }, { on := 10, ground := Ground.phase }, { on := 11, ground := Ground.phase }, { on := 12, ground := Ground.phase }, { on := 13, ground := Ground.phase }, { on := 14, ground := Ground.phase }, { on := 15, ground := Ground.phase }, { on := 16, ground := Ground.phase }, { on := 17, ground := Ground.phase }, { on := 18, ground := Ground.phase }, { on := 19, ground := Ground.phase }, { on := 20, ground := Ground.phase }], guard := none }) (v := ?_) rfl (by kernel_rfl) (by kernel_rfl) (by kernel_rfl) (by rfl) ?_ ?_
  rotate_left
  · intro W hW; first | (go_simp; done) | (go_simp; with_reducible rfl)
  try simp only [Act.put, List.setIfInBounds_toArray, List.set_cons_zero, List.set_cons_succ]
  refine wpB_done (by kernel_rfl) ?_
  go_wp2
  go_ret
  exact ⟨rfl, stepB hbw hB⟩

set_option maxRecDepth 100000 in
set_option maxHeartbeats 4000000 in
theorem inverts_other (Aa : Array Value) (a : List Nat) (ha : El4 a) (hA : Aa = ((nI a).map (Value.int .u64)).toArray) (hz : decide (wv a % pN = 0 % pN) = false) (w : World) :
    Calls Try.prog 7 #[.agg Aa] w fun e w' => e = .returned (.bool true) ∧ Below w.heap.size w w' := by
  have HZ : Hid (decide (wv a % pN = 0 % pN) = false) := hz
  clear hz
  go_enter Try.func7, Try.ntmps7
  go_wp2_with (refine wpList_box_row (k := .u64) rfl 24 _ rfl (nI a) (by rw [← hA]; rfl) ha.ne (elMax ha) ?_)
  intro w1 ra b1 s1
  rw [ha.len] at ra
  have hbw := b1
  clear b1 hA s1
  go_wp2_with fail
  refine (awake_any _).mono ?_
  rintro e wa ⟨rfl, bn⟩
  replace ra := ra.kept bn
  replace hbw := stepB hbw bn
  clear bn
  go_wp2_with (refine wpList_load_row rfl 24 _ rfl rfl ra _ Try.underlying24 rfl (arInfo ha) ?_)
  refine (numR_any _ a ha.1 ha.2 rfl _).mono ?_
  rintro e w3 ⟨v3, rfl, hRa, bn⟩
  replace ra := ra.kept bn
  replace hbw := stepB hbw bn
  clear bn
  go_wp2_with (refine wpList_load_row rfl 24 _ rfl rfl ra _ Try.underlying24 rfl (arInfo ha) ?_)
  refine (finvert_any _ a ha rfl _).mono ?_
  rintro e w4 ⟨l4, rfl, h4, hv4, bn⟩
  have HV4 : Hid _ := hv4
  replace ra := ra.kept bn
  replace hRa := hRa.kept bn
  replace hbw := stepB hbw bn
  clear bn hv4
  go_wp2_with (refine wpList_alloc_row (k := .u64) rfl 27 rfl (nI z4) (alloc_el _) z4_el.ne (elMax z4_el) ?_)
  intro w5 r5 bn s5
  rw [z4_el.len] at r5
  clear s5
  have hz4 := hbw.size
  go_wp2_with (refine wpList_store_row rfl 27 _ _ rfl (nI l4) rfl rfl r5 (by rw [z4_el.len, h4.len]) (elInfo z4_el) ?_)
  intro w6 r6 hw6
  replace bn : Below w4.heap.size w4 w6 := hw6.below _ _ (Nat.le_refl _) bn
  replace ra := ra.kept bn
  replace hRa := hRa.kept bn
  replace hbw := stepB hbw bn
  clear bn r5 hw6
  go_wp2_with (first | refine wpList_load_row rfl 27 _ rfl rfl r6 _ Try.underlying27 rfl (elInfo h4) ?_ | refine wpList_load_row rfl 24 _ rfl rfl ra _ Try.underlying24 rfl (arInfo ha) ?_)
  refine (fmul_any _ _ l4 a h4 ha rfl rfl _).mono ?_
  rintro e w7 ⟨l7, rfl, h7, hv7, bn⟩
  have HV7 : Hid _ := inv_prod _ _ _ HV4.out hv7
  replace ra := ra.kept bn
  replace r6 := r6.kept bn
  replace hRa := hRa.kept bn
  replace hbw := stepB hbw bn
  clear bn hv7
  go_wp2_with (refine wpList_alloc_row (k := .u64) rfl 27 rfl (nI z4) (alloc_el _) z4_el.ne (elMax z4_el) ?_)
  intro w8 r8 bn s8
  rw [z4_el.len] at r8
  clear s8
  go_wp2_with (refine wpList_store_row rfl 27 _ _ rfl (nI l7) rfl rfl r8 (by rw [z4_el.len, h7.len]) (elInfo z4_el) ?_)
  intro w9 r9 hw9
  replace bn : Below w7.heap.size w7 w9 := hw9.below _ _ (Nat.le_refl _) bn
  replace ra := ra.kept bn
  replace r6 := r6.kept bn
  replace hRa := hRa.kept bn
  replace hbw := stepB hbw bn
  clear bn r8 hw9
  go_wp2_with fail
  refine (smallR_any 0 (by omega) _ rfl _).mono ?_
  rintro e w10 ⟨v10, rfl, hR10, bn⟩
  replace r6 := r6.kept bn
  replace r9 := r9.kept bn
  replace hRa := hRa.kept bn
  replace hbw := stepB hbw bn
  clear bn ra
  go_wp2_with fail
  refine (sameR_any _ _ _ _ _ hRa hR10).mono ?_
  rintro e w11 ⟨rfl, bn⟩
  rw [HZ.out]
  replace r6 := r6.kept bn
  replace r9 := r9.kept bn
  replace hRa := hRa.kept bn
  replace hbw := stepB hbw bn
  clear bn hR10
  have HI : Hid (wv l7 % pN = 1 % pN) := by
    show _ = _
    rw [HV7.out]
    exact inv_one _ (fun h => by have := of_decide_eq_false HZ.out; rw [h] at this; exact this rfl)
  go_wp2_with fail
  have hB : Below w11.heap.size w11 w11.drew := (Below.refl _ _).drew
  refine wpB_begin (Below.refl w11.heap.size w11) (by kernel_rfl) ?_
  refine wpB_take (hb := hB) (i := 0) (oi := { dst := some 21, op := Op.load 27 (Operand.tmp 5), type := 27, pos := "law.go:77", after := #[], guard := none }) (v := ?_) rfl (by kernel_rfl) (by kernel_rfl) (by kernel_rfl) (by rfl) ?_ ?_
  rotate_left
  · intro W hW; refine Eq.trans (exec_load_row' 27 _ (by rfl) (by rfl) r6 hW _ Try.underlying27 rfl (elInfo h4)) ?_; with_reducible rfl
  try simp only [Act.put, List.setIfInBounds_toArray, List.set_cons_zero, List.set_cons_succ]
  refine wpB_take (hb := hB) (i := 1) (oi := { dst := some 22, op := Op.move (Operand.tmp 4), type := 29, pos := "law.go:77", after := #[], guard := none }) (v := ?_) rfl (by kernel_rfl) (by kernel_rfl) (by kernel_rfl) (by rfl) ?_ ?_
  rotate_left
  · intro W hW; first | (go_simp; done) | (go_simp; with_reducible rfl)
  try simp only [Act.put, List.setIfInBounds_toArray, List.set_cons_zero, List.set_cons_succ]
  refine wpB_do (i := 2) (o := { dst := some 23, op := Op.call { callee := Callee.value (Operand.func 25), args := #[Operand.tmp 22], argTypes := #[29] }, type := 29, pos := "law.go:77", after := #[{ on := 1, ground := Ground.data }], guard := none }) (by kernel_rfl) rfl (by rfl) fun K hK => ?_
  go_simp
  refine (powerR_any _ _ _ hRa.drew).mono ?_
  rintro e w12 ⟨v12, rfl, hR12, b12⟩
  replace hB := stepB hB b12
  refine hK.out _ _ hB ?_
  clear hK K
  try simp only [Act.put, List.setIfInBounds_toArray, List.set_cons_zero, List.set_cons_succ]
  refine wpB_do (i := 3) (o := { dst := some 24, op := Op.call { callee := Callee.value (Operand.func 10), args := #[Operand.tmp 21, Operand.tmp 23], argTypes := #[27, 29] }, type := 4, pos := "law.go:77", after := #[{ on := 0, ground := Ground.data }, { on := 2, ground := Ground.data }, { on := 2, ground := Ground.chain }], guard := none }) (by kernel_rfl) rfl (by rfl) fun K hK => ?_
  go_simp
  refine (is_true _ l4 _ _ h4 HV4.out rfl _ hR12).mono ?_
  rintro e w13 ⟨rfl, b13⟩
  replace hB := stepB hB b13
  refine hK.out _ _ hB ?_
  clear hK K
  try simp only [Act.put, List.setIfInBounds_toArray, List.set_cons_zero, List.set_cons_succ]
  refine wpB_take (hb := hB) (i := 4) (oi := { dst := some 25, op := Op.move (Operand.tmp 24), type := 4, pos := "law.go:77", after := #[{ on := 3, ground := Ground.data }, { on := 3, ground := Ground.chain }], guard := none }) (v := ?_) rfl (by kernel_rfl) (by kernel_rfl) (by kernel_rfl) (by rfl) ?_ ?_
  rotate_left
  · intro W hW; first | (go_simp; done) | (go_simp; with_reducible rfl)
  try simp only [Act.put, List.setIfInBounds_toArray, List.set_cons_zero, List.set_cons_succ]
  refine wpB_take (hb := hB) (i := 5) (oi := { dst := some 26, op := Op.move (Operand.tmp 7), type := 4, pos := "law.go:77", after := #[{ on := 4, ground := Ground.guard }], guard := some (4, true) }) (v := ?_) rfl (by kernel_rfl) (by kernel_rfl) (by kernel_rfl) (by rfl) ?_ ?_
  rotate_left
  · intro W hW; first | (go_simp; done) | (go_simp; with_reducible rfl)
  try simp only [Act.put, List.setIfInBounds_toArray, List.set_cons_zero, List.set_cons_succ]
  refine wpB_take (hb := hB) (i := 6) (oi := { dst := some 27, op := Op.move (Operand.tmp 26), type := 4, pos := "law.go:77", after := #[{ on := 5, ground := Ground.data }, { on := 4, ground := Ground.chain }, { on := 4, ground := Ground.guard }], guard := some (4, true) }) (v := ?_) rfl (by kernel_rfl) (by kernel_rfl) (by kernel_rfl) (by rfl) ?_ ?_
  rotate_left
  · intro W hW; first | (go_simp; done) | (go_simp; with_reducible rfl)
  try simp only [Act.put, List.setIfInBounds_toArray, List.set_cons_zero, List.set_cons_succ]
  refine wpB_skip (hb := hB) (i := 7) (oi := { dst := some 28, op := Op.load 27 (Operand.tmp 6), type := 27, pos := "law.go:77", after := #[{ on := 6, ground := Ground.guard }], guard := some (6, true) }) rfl (by kernel_rfl) (by kernel_rfl) (by kernel_rfl) (by rfl) ?_
  try simp only [Act.put, List.setIfInBounds_toArray, List.set_cons_zero, List.set_cons_succ]
  refine wpB_skip (hb := hB) (i := 8) (oi := { dst := some 29, op := Op.call { callee := Callee.value (Operand.func 21), args := #[Operand.const (Value.int IntKind.i64 0)], argTypes := #[3] }, type := 29, pos := "law.go:77", after := #[{ on := 6, ground := Ground.chain }, { on := 6, ground := Ground.guard }], guard := some (6, true) }) rfl (by kernel_rfl) (by kernel_rfl) (by kernel_rfl) (by rfl) ?_
  try simp only [Act.put, List.setIfInBounds_toArray, List.set_cons_zero, List.set_cons_succ]
  refine wpB_skip (hb := hB) (i := 9) (oi := { dst := some 30, op := Op.call { callee := Callee.value (Operand.func 10), args := #[Operand.tmp 28, Operand.tmp 29], argTypes := #[27, 29] }, type := 4, pos := "law.go:77", after := #[{ on := 7, ground := Ground.data }, { on := 8, ground := Ground.data }, { on := 8, ground := Ground.chain }, { on := 6, ground := Ground.guard }], guard := some (6, true) }) rfl (by kernel_rfl) (by kernel_rfl) (by kernel_rfl) (by rfl) ?_
  try simp only [Act.put, List.setIfInBounds_toArray, List.set_cons_zero, List.set_cons_succ]
  refine wpB_take (hb := hB) (i := 10) (oi := { dst := some 31, op := Op.pick (Operand.tmp 27) (Operand.tmp 30) (Operand.const (Value.bool false)), type := 4, pos := "law.go:77", after := #[{ on := 6, ground := Ground.data }, { on := 9, ground := Ground.data }, { on := 4, ground := Ground.guard }], guard := some (4, true) }) (v := ?_) rfl (by kernel_rfl) (by kernel_rfl) (by kernel_rfl) (by rfl) ?_ ?_
  rotate_left
  · intro W hW; first | (go_simp; done) | (go_simp; with_reducible rfl)
  try simp only [Act.put, List.setIfInBounds_toArray, List.set_cons_zero, List.set_cons_succ]
  refine wpB_take (hb := hB) (i := 11) (oi := { dst := some 32, op := Op.move (Operand.tmp 31), type := 4, pos := "law.go:77", after := #[{ on := 10, ground := Ground.data }, { on := 9, ground := Ground.chain }, { on := 4, ground := Ground.guard }], guard := some (4, true) }) (v := ?_) rfl (by kernel_rfl) (by kernel_rfl) (by kernel_rfl) (by rfl) ?_ ?_
  rotate_left
  · intro W hW; first | (go_simp; done) | (go_simp; with_reducible rfl)
  try simp only [Act.put, List.setIfInBounds_toArray, List.set_cons_zero, List.set_cons_succ]
  refine wpB_take (hb := hB) (i := 12) (oi := { dst := some 33, op := Op.move (Operand.tmp 7), type := 4, pos := "law.go:77", after := #[{ on := 11, ground := Ground.guard }], guard := some (11, false) }) (v := ?_) rfl (by kernel_rfl) (by kernel_rfl) (by kernel_rfl) (by rfl) ?_ ?_
  rotate_left
  · intro W hW; first | (go_simp; done) | (go_simp; with_reducible rfl)
  try simp only [Act.put, List.setIfInBounds_toArray, List.set_cons_zero, List.set_cons_succ]
  refine wpB_take (hb := hB) (i := 13) (oi := { dst := some 34, op := Op.unOp UnOp.not 4 (Operand.tmp 33), type := 4, pos := "law.go:77", after := #[{ on := 12, ground := Ground.data }, { on := 11, ground := Ground.guard }], guard := some (11, false) }) (v := ?_) rfl (by kernel_rfl) (by kernel_rfl) (by kernel_rfl) (by rfl) ?_ ?_
  rotate_left
  · intro W hW; first | (go_simp; done) | (go_simp; with_reducible rfl)
  try simp only [Act.put, List.setIfInBounds_toArray, List.set_cons_zero, List.set_cons_succ]
  refine wpB_take (hb := hB) (i := 14) (oi := { dst := some 35, op := Op.move (Operand.tmp 34), type := 4, pos := "law.go:77", after := #[{ on := 13, ground := Ground.data }, { on := 11, ground := Ground.chain }, { on := 11, ground := Ground.guard }], guard := some (11, false) }) (v := ?_) rfl (by kernel_rfl) (by kernel_rfl) (by kernel_rfl) (by rfl) ?_ ?_
  rotate_left
  · intro W hW; first | (go_simp; done) | (go_simp; with_reducible rfl)
  try simp only [Act.put, List.setIfInBounds_toArray, List.set_cons_zero, List.set_cons_succ]
  refine wpB_take (hb := hB) (i := 15) (oi := { dst := some 36, op := Op.load 27 (Operand.tmp 6), type := 27, pos := "law.go:77", after := #[{ on := 14, ground := Ground.guard }], guard := some (14, true) }) (v := ?_) rfl (by kernel_rfl) (by kernel_rfl) (by kernel_rfl) (by rfl) ?_ ?_
  rotate_left
  · intro W hW; refine Eq.trans (exec_load_row' 27 _ (by rfl) (by rfl) r9 hW _ Try.underlying27 rfl (elInfo h7)) ?_; with_reducible rfl
  try simp only [Act.put, List.setIfInBounds_toArray, List.set_cons_zero, List.set_cons_succ]
  refine wpB_do (i := 16) (o := { dst := some 37, op := Op.call { callee := Callee.value (Operand.func 21), args := #[Operand.const (Value.int IntKind.i64 1)], argTypes := #[3] }, type := 29, pos := "law.go:77", after := #[{ on := 14, ground := Ground.chain }, { on := 14, ground := Ground.guard }], guard := some (14, true) }) (by kernel_rfl) rfl (by rfl) fun K hK => ?_
  go_simp
  refine (smallR_any 1 (by omega) _ rfl _).mono ?_
  rintro e w14 ⟨v14, rfl, hR14, b14⟩
  replace hB := stepB hB b14
  refine hK.out _ _ hB ?_
  clear hK K
  try simp only [Act.put, List.setIfInBounds_toArray, List.set_cons_zero, List.set_cons_succ]
  refine wpB_do (i := 17) (o := { dst := some 38, op := Op.call { callee := Callee.value (Operand.func 10), args := #[Operand.tmp 36, Operand.tmp 37], argTypes := #[27, 29] }, type := 4, pos := "law.go:77", after := #[{ on := 15, ground := Ground.data }, { on := 16, ground := Ground.data }, { on := 16, ground := Ground.chain }, { on := 14, ground := Ground.guard }], guard := some (14, true) }) (by kernel_rfl) rfl (by rfl) fun K hK => ?_
  go_simp
  refine (is_true _ l7 _ _ h7 HI.out rfl _ hR14).mono ?_
  rintro e w15 ⟨rfl, b15⟩
  replace hB := stepB hB b15
  refine hK.out _ _ hB ?_
  clear hK K
  try simp only [Act.put, List.setIfInBounds_toArray, List.set_cons_zero, List.set_cons_succ]
  refine wpB_take (hb := hB) (i := 18) (oi := { dst := some 39, op := Op.pick (Operand.tmp 35) (Operand.tmp 38) (Operand.const (Value.bool false)), type := 4, pos := "law.go:77", after := #[{ on := 14, ground := Ground.data }, { on := 17, ground := Ground.data }, { on := 11, ground := Ground.guard }], guard := some (11, false) }) (v := ?_) rfl (by kernel_rfl) (by kernel_rfl) (by kernel_rfl) (by rfl) ?_ ?_
  rotate_left
  · intro W hW; first | (go_simp; done) | (go_simp; with_reducible rfl)
  try simp only [Act.put, List.setIfInBounds_toArray, List.set_cons_zero, List.set_cons_succ]
  refine wpB_take (hb := hB) (i := 19) (oi := { dst := some 40, op := Op.pick (Operand.tmp 32) (Operand.const (Value.bool true)) (Operand.tmp 39), type := 4, pos := "law.go:77", after := #[{ on := 11, ground := Ground.data }, { on := 18, ground := Ground.data }, { on := 4, ground := Ground.guard }], guard := some (4, true) }) (v := ?_) rfl (by kernel_rfl) (by kernel_rfl) (by kernel_rfl) (by rfl) ?_ ?_
  rotate_left
  · intro W hW; first | (go_simp; done) | (go_simp; with_reducible rfl)
  try simp only [Act.put, List.setIfInBounds_toArray, List.set_cons_zero, List.set_cons_succ]
  refine wpB_take (hb := hB) (i := 20) (oi := { dst := some 41, op := Op.pick (Operand.tmp 25) (Operand.tmp 40) (Operand.const (Value.bool false)), type := 4, pos := "law.go:77", after := #[{ on := 4, ground := Ground.data }, { on := 19, ground := Ground.data }], guard := none }) (v := ?_) rfl (by kernel_rfl) (by kernel_rfl) (by kernel_rfl) (by rfl) ?_ ?_
  rotate_left
  · intro W hW; first | (go_simp; done) | (go_simp; with_reducible rfl)
  try simp only [Act.put, List.setIfInBounds_toArray, List.set_cons_zero, List.set_cons_succ]
  refine wpB_take (hb := hB) (i := 21) (oi := { dst := some 2, op := Op.assign (Operand.tmp 41), type := 4, pos := "law.go:77", after := #[{ on := 20, ground := Ground.data }, { on := 17, ground := Ground.chain }, { on := 0, ground := Ground.phase }, { on := 1, ground := Ground.phase }, { on := 2, ground := Ground.phase }, { on := 3, ground := Ground.phase }, { on := 4, ground := Ground.phase }, { on := 5, ground := Ground.phase }, { on := 6, ground := Ground.phase }, { on := 7, ground := Ground.phase }, { on := 8, ground := Ground.phase }, { on := 9, ground := Ground.phase }, { on := 10, ground := Ground.phase }, { on := 11, ground := Ground.phase }, { on := 12, ground := Ground.phase }, { on := 13, ground := Ground.phase }, { on := 14, ground := Ground.phase }, { on := 15, ground := Ground.phase }, { on := 16, ground := Ground.phase }, { on := 17, ground := Ground.phase }, { on := 18, ground := Ground.phase }, { on := 19, ground := Ground.phase }, { on := 20, ground := Ground.phase }], guard := none }) (v := ?_) rfl (by kernel_rfl) (by kernel_rfl) (by kernel_rfl) (by rfl) ?_ ?_
  rotate_left
  · intro W hW; first | (go_simp; done) | (go_simp; with_reducible rfl)
  try simp only [Act.put, List.setIfInBounds_toArray, List.set_cons_zero, List.set_cons_succ]
  refine wpB_done (by kernel_rfl) ?_
  go_wp2
  go_ret
  exact ⟨rfl, stepB hbw hB⟩

theorem inverts_walk (Aa : Array Value) (a : List Nat) (ha : El4 a) (hA : Aa = ((nI a).map (Value.int .u64)).toArray) (w : World) :
    Calls Try.prog 7 #[.agg Aa] w fun e w' => e = .returned (.bool true) ∧ Below w.heap.size w w' := by
  cases h : decide (wv a % pN = 0 % pN) with
  | true => exact inverts_zero Aa a ha hA h w
  | false => exact inverts_other Aa a ha hA h w
end Go.Proofs.Ytikkfmghjfddfaa
