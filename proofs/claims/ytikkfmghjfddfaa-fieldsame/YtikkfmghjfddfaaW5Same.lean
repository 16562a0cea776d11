/- What the law FieldSame answers at every input: the walk. -/
import Derived.Test.YtikkfmghjfddfaaF05j
namespace Go.Proofs.Ytikkfmghjfddfaa
open Go.ChangeShapes Go.WideShapes Go.ChangeAt Go.RowKit
set_option linter.unusedSimpArgs false
set_option linter.unusedVariables false

theorem eq_self {x : List Nat} (hx : El4 x) (w : World) : (Op.equalIn 10000 27 (elV x) (elV x)).run Try.prog w = .ok true w := by
  rw [eq_el hx hx w, decide_eq_true rfl]

set_option maxRecDepth 100000 in
set_option maxHeartbeats 4000000 in
theorem same_one (bit : Int) (h1 : bit = 1) (Aa : Array Value) (a : List Nat) (ha : El4 a) (hA : Aa = ((nI a).map (Value.int .u64)).toArray) (Ba : Array Value) (b : List Nat) (hb : El4 b) (hB : Ba = ((nI b).map (Value.int .u64)).toArray) (w : World) :
    Calls Try.prog 8 #[.int .i64 bit, .agg Aa, .agg Ba] w fun e w' => e = .returned (.bool true) ∧ Below w.heap.size w w' := by
  have hbit : (bit == 1) = true := by simp [h1]
  have hbit2 : (bit != 1) = false := by simp [h1]
  have H1 : Hid (bit = 1) := h1
  clear h1
  go_enter Try.func8, Try.ntmps8
  go_wp2_with (refine wpList_box_row (k := .u64) rfl 24 _ rfl (nI a) (by rw [← hA]; rfl) ha.ne (elMax ha) ?_)
  intro w1 ra b1 s1
  rw [ha.len] at ra
  clear s1
  go_wp2_with (refine wpList_box_row (k := .u64) rfl 24 _ rfl (nI b) (by rw [← hB]; rfl) hb.ne (elMax hb) ?_)
  intro w2 rb b2 s2
  rw [hb.len] at rb
  replace ra := ra.kept b2
  have hbw := stepB b1 b2
  clear b1 b2 s2 hA hB
  go_wp2_with fail
  refine (awake_any _).mono ?_
  rintro e wa ⟨rfl, bn⟩
  replace ra := ra.kept bn
  replace rb := rb.kept bn
  replace hbw := stepB hbw bn
  clear bn
  go_wp2_with (first | refine wpList_load_row rfl 24 _ rfl rfl ra _ Try.underlying24 rfl (arInfo ha) ?_ | refine wpList_load_row rfl 24 _ rfl rfl rb _ Try.underlying24 rfl (arInfo hb) ?_)
  refine (swap_any bit _ _ a b ha hb rfl rfl _).mono ?_
  rintro e w3 ⟨rfl, bn⟩
  rw [if_pos H1.out, if_pos H1.out]
  replace ra := ra.kept bn
  replace rb := rb.kept bn
  replace hbw := stepB hbw bn
  clear bn
  go_wp2_with (refine wpList_alloc_row (k := .u64) rfl 27 rfl (nI z4) (alloc_el _) z4_el.ne (elMax z4_el) ?_)
  intro w4 r4 bn s4
  rw [z4_el.len] at r4
  go_wp2_with (refine wpList_alloc_row (k := .u64) rfl 27 rfl (nI z4) (alloc_el _) z4_el.ne (elMax z4_el) ?_)
  intro w5 r5 bn2 s5
  rw [z4_el.len] at r5
  have n4 : w3.heap.size < w4.heap.size := by have := s4.out; omega
  replace bn := stepB bn bn2
  replace r4 := r4.kept bn2
  clear s4 s5 bn2
  go_wp2_with (refine wpList_store_row rfl 27 _ _ rfl (nI b) rfl rfl r4 (by rw [z4_el.len, hb.len]) (elInfo z4_el) ?_)
  intro w6 r6 hw6
  replace r5 := r5.wrote hw6 (by omega)
  replace bn := hw6.below _ _ (by omega) bn
  clear r4 hw6
  go_wp2_with (refine wpList_store_row rfl 27 _ _ rfl (nI a) rfl rfl r5 (by rw [z4_el.len, ha.len]) (elInfo z4_el) ?_)
  intro w7 r7 hw7
  replace r6 := r6.wrote hw7 (by omega)
  replace bn := hw7.below _ _ (by omega) bn
  replace ra := ra.kept bn
  replace rb := rb.kept bn
  replace hbw := stepB hbw bn
  clear r5 hw7 bn
  have q1 := eq_self ha w7
  have q2 := eq_self hb w7
  go_upto_region 5 with fail
  refine wp_region_lit (l := [{ dst := some 20, op := Op.move (Operand.tmp 0), type := 3, pos := "law.go:87", after := #[], guard := none }, { dst := some 21, op := Op.binOp BinOp.eql 3 (Operand.tmp 20) (Operand.const (Value.int IntKind.i64 1)) 3, type := 4, pos := "law.go:87", after := #[{ on := 0, ground := Ground.data }], guard := none }, { dst := some 22, op := Op.move (Operand.tmp 21), type := 4, pos := "law.go:87", after := #[{ on := 1, ground := Ground.data }], guard := none }, { dst := some 23, op := Op.load 27 (Operand.tmp 8), type := 27, pos := "law.go:87", after := #[{ on := 2, ground := Ground.guard }], guard := some (2, true) }, { dst := some 24, op := Op.load 24 (Operand.tmp 5), type := 24, pos := "law.go:87", after := #[{ on := 2, ground := Ground.guard }], guard := some (2, true) }, { dst := some 25, op := Op.binOp BinOp.neq 27 (Operand.tmp 23) (Operand.tmp 24) 27, type := 4, pos := "law.go:87", after := #[{ on := 3, ground := Ground.data }, { on := 4, ground := Ground.data }, { on := 2, ground := Ground.guard }], guard := some (2, true) }, { dst := some 26, op := Op.move (Operand.tmp 25), type := 4, pos := "law.go:87", after := #[{ on := 5, ground := Ground.data }, { on := 2, ground := Ground.chain }, { on := 2, ground := Ground.guard }], guard := some (2, true) }, { dst := some 27, op := Op.load 27 (Operand.tmp 9), type := 27, pos := "law.go:87", after := #[{ on := 6, ground := Ground.guard }], guard := some (6, false) }, { dst := some 28, op := Op.load 24 (Operand.tmp 4), type := 24, pos := "law.go:87", after := #[{ on := 6, ground := Ground.guard }], guard := some (6, false) }, { dst := some 29, op := Op.binOp BinOp.neq 27 (Operand.tmp 27) (Operand.tmp 28) 27, type := 4, pos := "law.go:87", after := #[{ on := 7, ground := Ground.data }, { on := 8, ground := Ground.data }, { on := 6, ground := Ground.guard }], guard := some (6, false) }, { dst := some 30, op := Op.pick (Operand.tmp 26) (Operand.const (Value.bool true)) (Operand.tmp 29), type := 4, pos := "law.go:87", after := #[{ on := 6, ground := Ground.data }, { on := 9, ground := Ground.data }, { on := 2, ground := Ground.guard }], guard := some (2, true) }, { dst := some 31, op := Op.pick (Operand.tmp 22) (Operand.tmp 30) (Operand.const (Value.bool false)), type := 4, pos := "law.go:87", after := #[{ on := 2, ground := Ground.data }, { on := 10, ground := Ground.data }], guard := none }, { dst := some 32, op := Op.move (Operand.tmp 31), type := 4, pos := "law.go:87", after := #[{ on := 11, ground := Ground.data }, { on := 6, ground := Ground.chain }], guard := none }, { dst := some 33, op := Op.move (Operand.tmp 0), type := 3, pos := "law.go:87", after := #[{ on := 12, ground := Ground.guard }], guard := some (12, false) }, { dst := some 34, op := Op.binOp BinOp.neq 3 (Operand.tmp 33) (Operand.const (Value.int IntKind.i64 1)) 3, type := 4, pos := "law.go:87", after := #[{ on := 13, ground := Ground.data }, { on := 12, ground := Ground.guard }], guard := some (12, false) }, { dst := some 35, op := Op.move (Operand.tmp 34), type := 4, pos := "law.go:87", after := #[{ on := 14, ground := Ground.data }, { on := 12, ground := Ground.chain }, { on := 12, ground := Ground.guard }], guard := some (12, false) }, { dst := some 36, op := Op.load 27 (Operand.tmp 8), type := 27, pos := "law.go:87", after := #[{ on := 15, ground := Ground.guard }], guard := some (15, true) }, { dst := some 37, op := Op.load 24 (Operand.tmp 4), type := 24, pos := "law.go:87", after := #[{ on := 15, ground := Ground.guard }], guard := some (15, true) }, { dst := some 38, op := Op.binOp BinOp.neq 27 (Operand.tmp 36) (Operand.tmp 37) 27, type := 4, pos := "law.go:87", after := #[{ on := 16, ground := Ground.data }, { on := 17, ground := Ground.data }, { on := 15, ground := Ground.guard }], guard := some (15, true) }, { dst := some 39, op := Op.move (Operand.tmp 38), type := 4, pos := "law.go:87", after := #[{ on := 18, ground := Ground.data }, { on := 15, ground := Ground.chain }, { on := 15, ground := Ground.guard }], guard := some (15, true) }, { dst := some 40, op := Op.load 27 (Operand.tmp 9), type := 27, pos := "law.go:87", after := #[{ on := 19, ground := Ground.guard }], guard := some (19, false) }, { dst := some 41, op := Op.load 24 (Operand.tmp 5), type := 24, pos := "law.go:87", after := #[{ on := 19, ground := Ground.guard }], guard := some (19, false) }, { dst := some 42, op := Op.binOp BinOp.neq 27 (Operand.tmp 40) (Operand.tmp 41) 27, type := 4, pos := "law.go:87", after := #[{ on := 20, ground := Ground.data }, { on := 21, ground := Ground.data }, { on := 19, ground := Ground.guard }], guard := some (19, false) }, { dst := some 43, op := Op.pick (Operand.tmp 39) (Operand.const (Value.bool true)) (Operand.tmp 42), type := 4, pos := "law.go:87", after := #[{ on := 19, ground := Ground.data }, { on := 22, ground := Ground.data }, { on := 15, ground := Ground.guard }], guard := some (15, true) }, { dst := some 44, op := Op.pick (Operand.tmp 35) (Operand.tmp 43) (Operand.const (Value.bool false)), type := 4, pos := "law.go:87", after := #[{ on := 15, ground := Ground.data }, { on := 23, ground := Ground.data }, { on := 12, ground := Ground.guard }], guard := some (12, false) }, { dst := some 45, op := Op.pick (Operand.tmp 32) (Operand.const (Value.bool true)) (Operand.tmp 44), type := 4, pos := "law.go:87", after := #[{ on := 12, ground := Ground.data }, { on := 24, ground := Ground.data }], guard := none }]) (WL.out ?_)
  refine WL.take (v := ?_) (by rfl) ?_ ?_
  rotate_left
  · first | (go_simp; done) | (go_simp; with_reducible rfl)
  try simp only [Act.put, List.setIfInBounds_toArray, List.set_cons_zero, List.set_cons_succ]
  refine WL.take (v := ?_) (by rfl) ?_ ?_
  rotate_left
  · first | (go_simp; done) | (go_simp; with_reducible rfl)
  try simp only [Act.put, List.setIfInBounds_toArray, List.set_cons_zero, List.set_cons_succ]
  refine WL.take (v := ?_) (by rfl) ?_ ?_
  rotate_left
  · first | (go_simp; done) | (go_simp; with_reducible rfl)
  try simp only [Act.put, List.setIfInBounds_toArray, List.set_cons_zero, List.set_cons_succ]
  refine WL.take (v := ?_) (by go_simp) ?_ ?_
  rotate_left
  · refine Eq.trans (exec_load_row' 27 _ (by rfl) (by rfl) r6 (Below.refl _ _) _ Try.underlying27 rfl (elInfo hb)) ?_; with_reducible rfl
  try simp only [Act.put, List.setIfInBounds_toArray, List.set_cons_zero, List.set_cons_succ]
  refine WL.take (v := ?_) (by go_simp) ?_ ?_
  rotate_left
  · refine Eq.trans (exec_load_row' 24 _ (by rfl) (by rfl) rb (Below.refl _ _) _ Try.underlying24 rfl (arInfo hb)) ?_; with_reducible rfl
  try simp only [Act.put, List.setIfInBounds_toArray, List.set_cons_zero, List.set_cons_succ]
  refine WL.take (v := ?_) (by go_simp) ?_ ?_
  rotate_left
  · first | (go_simp; done) | (go_simp; with_reducible rfl)
  try simp only [Act.put, List.setIfInBounds_toArray, List.set_cons_zero, List.set_cons_succ]
  refine WL.take (v := ?_) (by go_simp) ?_ ?_
  rotate_left
  · first | (go_simp; done) | (go_simp; with_reducible rfl)
  try simp only [Act.put, List.setIfInBounds_toArray, List.set_cons_zero, List.set_cons_succ]
  refine WL.take (v := ?_) (by go_simp) ?_ ?_
  rotate_left
  · refine Eq.trans (exec_load_row' 27 _ (by rfl) (by rfl) r7 (Below.refl _ _) _ Try.underlying27 rfl (elInfo ha)) ?_; with_reducible rfl
  try simp only [Act.put, List.setIfInBounds_toArray, List.set_cons_zero, List.set_cons_succ]
  refine WL.take (v := ?_) (by go_simp) ?_ ?_
  rotate_left
  · refine Eq.trans (exec_load_row' 24 _ (by rfl) (by rfl) ra (Below.refl _ _) _ Try.underlying24 rfl (arInfo ha)) ?_; with_reducible rfl
  try simp only [Act.put, List.setIfInBounds_toArray, List.set_cons_zero, List.set_cons_succ]
  refine WL.take (v := ?_) (by go_simp) ?_ ?_
  rotate_left
  · first | (go_simp; done) | (go_simp; with_reducible rfl)
  try simp only [Act.put, List.setIfInBounds_toArray, List.set_cons_zero, List.set_cons_succ]
  refine WL.take (v := ?_) (by go_simp) ?_ ?_
  rotate_left
  · first | (go_simp; done) | (go_simp; with_reducible rfl)
  try simp only [Act.put, List.setIfInBounds_toArray, List.set_cons_zero, List.set_cons_succ]
  refine WL.take (v := ?_) (by rfl) ?_ ?_
  rotate_left
  · first | (go_simp; done) | (go_simp; with_reducible rfl)
  try simp only [Act.put, List.setIfInBounds_toArray, List.set_cons_zero, List.set_cons_succ]
  refine WL.take (v := ?_) (by rfl) ?_ ?_
  rotate_left
  · first | (go_simp; done) | (go_simp; with_reducible rfl)
  try simp only [Act.put, List.setIfInBounds_toArray, List.set_cons_zero, List.set_cons_succ]
  refine WL.take (v := ?_) (by go_simp) ?_ ?_
  rotate_left
  · first | (go_simp; done) | (go_simp; with_reducible rfl)
  try simp only [Act.put, List.setIfInBounds_toArray, List.set_cons_zero, List.set_cons_succ]
  refine WL.take (v := ?_) (by go_simp) ?_ ?_
  rotate_left
  · first | (go_simp; done) | (go_simp; with_reducible rfl)
  try simp only [Act.put, List.setIfInBounds_toArray, List.set_cons_zero, List.set_cons_succ]
  refine WL.take (v := ?_) (by go_simp) ?_ ?_
  rotate_left
  · first | (go_simp; done) | (go_simp; with_reducible rfl)
  try simp only [Act.put, List.setIfInBounds_toArray, List.set_cons_zero, List.set_cons_succ]
  refine WL.skip (by first | (go_simp; done) | (go_simp; simp [undef]; done) | (go_simp; decide)) ?_
  try simp only [Act.put, List.setIfInBounds_toArray, List.set_cons_zero, List.set_cons_succ]
  refine WL.skip (by first | (go_simp; done) | (go_simp; simp [undef]; done) | (go_simp; decide)) ?_
  try simp only [Act.put, List.setIfInBounds_toArray, List.set_cons_zero, List.set_cons_succ]
  refine WL.skip (by first | (go_simp; done) | (go_simp; simp [undef]; done) | (go_simp; decide)) ?_
  try simp only [Act.put, List.setIfInBounds_toArray, List.set_cons_zero, List.set_cons_succ]
  refine WL.skip (by first | (go_simp; done) | (go_simp; simp [undef]; done) | (go_simp; decide)) ?_
  try simp only [Act.put, List.setIfInBounds_toArray, List.set_cons_zero, List.set_cons_succ]
  refine WL.skip (by first | (go_simp; done) | (go_simp; simp [undef]; done) | (go_simp; decide)) ?_
  try simp only [Act.put, List.setIfInBounds_toArray, List.set_cons_zero, List.set_cons_succ]
  refine WL.skip (by first | (go_simp; done) | (go_simp; simp [undef]; done) | (go_simp; decide)) ?_
  try simp only [Act.put, List.setIfInBounds_toArray, List.set_cons_zero, List.set_cons_succ]
  refine WL.skip (by first | (go_simp; done) | (go_simp; simp [undef]; done) | (go_simp; decide)) ?_
  try simp only [Act.put, List.setIfInBounds_toArray, List.set_cons_zero, List.set_cons_succ]
  refine WL.skip (by first | (go_simp; done) | (go_simp; simp [undef]; done) | (go_simp; decide)) ?_
  try simp only [Act.put, List.setIfInBounds_toArray, List.set_cons_zero, List.set_cons_succ]
  refine WL.take (v := ?_) (by go_simp) ?_ ?_
  rotate_left
  · first | (go_simp; done) | (go_simp; with_reducible rfl)
  try simp only [Act.put, List.setIfInBounds_toArray, List.set_cons_zero, List.set_cons_succ]
  refine WL.take (v := ?_) (by rfl) ?_ ?_
  rotate_left
  · first | (go_simp; done) | (go_simp; with_reducible rfl)
  try simp only [Act.put, List.setIfInBounds_toArray, List.set_cons_zero, List.set_cons_succ]
  refine WL.nil ?_
  go_upto_region 7 with fail
  clear q1 q2
  have hB : Below w7.heap.size w7 w7.drew := (Below.refl _ _).drew
  refine wpB_begin (Below.refl w7.heap.size w7) (by kernel_rfl) ?_
  refine wpB_take (hb := hB) (i := 0) (oi := { dst := some 46, op := Op.load 24 (Operand.tmp 4), type := 24, pos := "law.go:90", after := #[], guard := none }) (v := ?_) rfl (by kernel_rfl) (by kernel_rfl) (by kernel_rfl) (by rfl) ?_ ?_
  rotate_left
  · intro W hW; refine Eq.trans (exec_load_row' 24 _ (by rfl) (by rfl) ra hW _ Try.underlying24 rfl (arInfo ha)) ?_; with_reducible rfl
  try simp only [Act.put, List.setIfInBounds_toArray, List.set_cons_zero, List.set_cons_succ]
  refine wpB_take (hb := hB) (i := 1) (oi := { dst := some 47, op := Op.load 24 (Operand.tmp 5), type := 24, pos := "law.go:90", after := #[], guard := none }) (v := ?_) rfl (by kernel_rfl) (by kernel_rfl) (by kernel_rfl) (by rfl) ?_ ?_
  rotate_left
  · intro W hW; refine Eq.trans (exec_load_row' 24 _ (by rfl) (by rfl) rb hW _ Try.underlying24 rfl (arInfo hb)) ?_; with_reducible rfl
  try simp only [Act.put, List.setIfInBounds_toArray, List.set_cons_zero, List.set_cons_succ]
  refine wpB_take (hb := hB) (i := 3) (oi := { dst := some 49, op := Op.load 24 (Operand.tmp 4), type := 24, pos := "law.go:90", after := #[], guard := none }) (v := ?_) rfl (by kernel_rfl) (by kernel_rfl) (by kernel_rfl) (by rfl) ?_ ?_
  rotate_left
  · intro W hW; refine Eq.trans (exec_load_row' 24 _ (by rfl) (by rfl) ra hW _ Try.underlying24 rfl (arInfo ha)) ?_; with_reducible rfl
  try simp only [Act.put, List.setIfInBounds_toArray, List.set_cons_zero, List.set_cons_succ]
  refine wpB_take (hb := hB) (i := 5) (oi := { dst := some 51, op := Op.load 24 (Operand.tmp 5), type := 24, pos := "law.go:90", after := #[], guard := none }) (v := ?_) rfl (by kernel_rfl) (by kernel_rfl) (by kernel_rfl) (by rfl) ?_ ?_
  rotate_left
  · intro W hW; refine Eq.trans (exec_load_row' 24 _ (by rfl) (by rfl) rb hW _ Try.underlying24 rfl (arInfo hb)) ?_; with_reducible rfl
  try simp only [Act.put, List.setIfInBounds_toArray, List.set_cons_zero, List.set_cons_succ]
  refine wpB_do (i := 2) (o := { dst := some 48, op := Op.call { callee := Callee.value (Operand.func 27), args := #[Operand.tmp 46, Operand.tmp 47], argTypes := #[27, 27] }, type := 4, pos := "law.go:90", after := #[{ on := 0, ground := Ground.data }, { on := 1, ground := Ground.data }], guard := none }) (by kernel_rfl) rfl (by rfl) fun K hK => ?_
  go_simp
  refine (fsame_any _ _ a b ha hb rfl rfl _).mono ?_
  rintro e w8 ⟨rfl, b8⟩
  replace hB := stepB hB b8
  refine hK.out _ _ hB ?_
  clear hK K
  try simp only [Act.put, List.setIfInBounds_toArray, List.set_cons_zero, List.set_cons_succ]
  refine wpB_do (i := 4) (o := { dst := some 50, op := Op.call { callee := Callee.value (Operand.func 13), args := #[Operand.tmp 49], argTypes := #[24] }, type := 29, pos := "law.go:90", after := #[{ on := 3, ground := Ground.data }, { on := 2, ground := Ground.chain }], guard := none }) (by kernel_rfl) rfl (by rfl) fun K hK => ?_
  go_simp
  refine (numR_any _ a ha.1 ha.2 rfl _).mono ?_
  rintro e w9 ⟨v9, rfl, hR9, b9⟩
  replace hB := stepB hB b9
  refine hK.out _ _ hB ?_
  clear hK K
  try simp only [Act.put, List.setIfInBounds_toArray, List.set_cons_zero, List.set_cons_succ]
  refine wpB_do (i := 6) (o := { dst := some 52, op := Op.call { callee := Callee.value (Operand.func 13), args := #[Operand.tmp 51], argTypes := #[24] }, type := 29, pos := "law.go:90", after := #[{ on := 5, ground := Ground.data }, { on := 4, ground := Ground.chain }], guard := none }) (by kernel_rfl) rfl (by rfl) fun K hK => ?_
  go_simp
  refine (numR_any _ b hb.1 hb.2 rfl _).mono ?_
  rintro e w10 ⟨v10, rfl, hR10, b10⟩
  replace hB := stepB hB b10
  refine hK.out _ _ hB ?_
  clear hK K
  try simp only [Act.put, List.setIfInBounds_toArray, List.set_cons_zero, List.set_cons_succ]
  refine wpB_do (i := 7) (o := { dst := some 53, op := Op.call { callee := Callee.value (Operand.func 24), args := #[Operand.tmp 50, Operand.tmp 52], argTypes := #[29, 29] }, type := 4, pos := "law.go:90", after := #[{ on := 4, ground := Ground.data }, { on := 6, ground := Ground.data }, { on := 6, ground := Ground.chain }], guard := none }) (by kernel_rfl) rfl (by rfl) fun K hK => ?_
  go_simp
  refine (sameR_any _ _ _ _ _ (hR9.kept b10) hR10).mono ?_
  rintro e w11 ⟨rfl, b11⟩
  replace hB := stepB hB b11
  refine hK.out _ _ hB ?_
  clear hK K
  try simp only [Act.put, List.setIfInBounds_toArray, List.set_cons_zero, List.set_cons_succ]
  refine wpB_take (hb := hB) (i := 8) (oi := { dst := some 54, op := Op.binOp BinOp.eql 4 (Operand.tmp 48) (Operand.tmp 53) 4, type := 4, pos := "law.go:90", after := #[{ on := 2, ground := Ground.data }, { on := 7, ground := Ground.data }], guard := none }) (v := ?_) rfl (by kernel_rfl) (by kernel_rfl) (by kernel_rfl) (by rfl) ?_ ?_
  rotate_left
  · intro W hW; first | (go_simp; done) | (go_simp; with_reducible rfl)
  try simp only [Act.put, List.setIfInBounds_toArray, List.set_cons_zero, List.set_cons_succ]
  refine wpB_take (hb := hB) (i := 9) (oi := { dst := some 6, op := Op.assign (Operand.tmp 54), type := 4, pos := "law.go:90", after := #[{ on := 8, ground := Ground.data }, { on := 7, ground := Ground.chain }, { on := 0, ground := Ground.phase }, { on := 1, ground := Ground.phase }, { on := 2, ground := Ground.phase }, { on := 3, ground := Ground.phase }, { on := 4, ground := Ground.phase }, { on := 5, ground := Ground.phase }, { on := 6, ground := Ground.phase }, { on := 7, ground := Ground.phase }, { on := 8, ground := Ground.phase }], guard := none }) (v := ?_) rfl (by kernel_rfl) (by kernel_rfl) (by kernel_rfl) (by rfl) ?_ ?_
  rotate_left
  · intro W hW; first | (go_simp; done) | (go_simp; with_reducible rfl)
  try simp only [Act.put, List.setIfInBounds_toArray, List.set_cons_zero, List.set_cons_succ]
  refine wpB_done (by kernel_rfl) ?_
  generalize decide (wv a % pN = wv b % pN) = d
  go_wp2
  go_ret
  exact ⟨by simp, stepB hbw hB⟩

set_option maxRecDepth 100000 in
set_option maxHeartbeats 4000000 in
theorem same_other (bit : Int) (h1 : bit ≠ 1) (Aa : Array Value) (a : List Nat) (ha : El4 a) (hA : Aa = ((nI a).map (Value.int .u64)).toArray) (Ba : Array Value) (b : List Nat) (hb : El4 b) (hB : Ba = ((nI b).map (Value.int .u64)).toArray) (w : World) :
    Calls Try.prog 8 #[.int .i64 bit, .agg Aa, .agg Ba] w fun e w' => e = .returned (.bool true) ∧ Below w.heap.size w w' := by
  have hbit : (bit == 1) = false := by simp [h1]
  have hbit2 : (bit != 1) = true := by simp [h1]
  have H1 : Hid (bit ≠ 1) := h1
  clear h1
  go_enter Try.func8, Try.ntmps8
  go_wp2_with (refine wpList_box_row (k := .u64) rfl 24 _ rfl (nI a) (by rw [← hA]; rfl) ha.ne (elMax ha) ?_)
  intro w1 ra b1 s1
  rw [ha.len] at ra
  clear s1
  go_wp2_with (refine wpList_box_row (k := .u64) rfl 24 _ rfl (nI b) (by rw [← hB]; rfl) hb.ne (elMax hb) ?_)
  intro w2 rb b2 s2
  rw [hb.len] at rb
  replace ra := ra.kept b2
  have hbw := stepB b1 b2
  clear b1 b2 s2 hA hB
  go_wp2_with fail
  refine (awake_any _).mono ?_
  rintro e wa ⟨rfl, bn⟩
  replace ra := ra.kept bn
  replace rb := rb.kept bn
  replace hbw := stepB hbw bn
  clear bn
  go_wp2_with (first | refine wpList_load_row rfl 24 _ rfl rfl ra _ Try.underlying24 rfl (arInfo ha) ?_ | refine wpList_load_row rfl 24 _ rfl rfl rb _ Try.underlying24 rfl (arInfo hb) ?_)
  refine (swap_any bit _ _ a b ha hb rfl rfl _).mono ?_
  rintro e w3 ⟨rfl, bn⟩
  rw [if_neg H1.out, if_neg H1.out]
  replace ra := ra.kept bn
  replace rb := rb.kept bn
  replace hbw := stepB hbw bn
  clear bn
  go_wp2_with (refine wpList_alloc_row (k := .u64) rfl 27 rfl (nI z4) (alloc_el _) z4_el.ne (elMax z4_el) ?_)
  intro w4 r4 bn s4
  rw [z4_el.len] at r4
  go_wp2_with (refine wpList_alloc_row (k := .u64) rfl 27 rfl (nI z4) (alloc_el _) z4_el.ne (elMax z4_el) ?_)
  intro w5 r5 bn2 s5
  rw [z4_el.len] at r5
  have n4 : w3.heap.size < w4.heap.size := by have := s4.out; omega
  replace bn := stepB bn bn2
  replace r4 := r4.kept bn2
  clear s4 s5 bn2
  go_wp2_with (refine wpList_store_row rfl 27 _ _ rfl (nI a) rfl rfl r4 (by rw [z4_el.len, ha.len]) (elInfo z4_el) ?_)
  intro w6 r6 hw6
  replace r5 := r5.wrote hw6 (by omega)
  replace bn := hw6.below _ _ (by omega) bn
  clear r4 hw6
  go_wp2_with (refine wpList_store_row rfl 27 _ _ rfl (nI b) rfl rfl r5 (by rw [z4_el.len, hb.len]) (elInfo z4_el) ?_)
  intro w7 r7 hw7
  replace r6 := r6.wrote hw7 (by omega)
  replace bn := hw7.below _ _ (by omega) bn
  replace ra := ra.kept bn
  replace rb := rb.kept bn
  replace hbw := stepB hbw bn
  clear r5 hw7 bn
  have q1 := eq_self ha w7
  have q2 := eq_self hb w7
  go_upto_region 5 with fail
  refine wp_region_lit (l := [{ dst := some 20, op := Op.move (Operand.tmp 0), type := 3, pos := "law.go:87", after := #[], guard := none }, { dst := some 21, op := Op.binOp BinOp.eql 3 (Operand.tmp 20) (Operand.const (Value.int IntKind.i64 1)) 3, type := 4, pos := "law.go:87", after := #[{ on := 0, ground := Ground.data }], guard := none }, { dst := some 22, op := Op.move (Operand.tmp 21), type := 4, pos := "law.go:87", after := #[{ on := 1, ground := Ground.data }], guard := none }, { dst := some 23, op := Op.load 27 (Operand.tmp 8), type := 27, pos := "law.go:87", after := #[{ on := 2, ground := Ground.guard }], guard := some (2, true) }, { dst := some 24, op := Op.load 24 (Operand.tmp 5), type := 24, pos := "law.go:87", after := #[{ on := 2, ground := Ground.guard }], guard := some (2, true) }, { dst := some 25, op := Op.binOp BinOp.neq 27 (Operand.tmp 23) (Operand.tmp 24) 27, type := 4, pos := "law.go:87", after := #[{ on := 3, ground := Ground.data }, { on := 4, ground := Ground.data }, { on := 2, ground := Ground.guard }], guard := some (2, true) }, { dst := some 26, op := Op.move (Operand.tmp 25), type := 4, pos := "law.go:87", after := #[{ on := 5, ground := Ground.data }, { on := 2, ground := Ground.chain }, { on := 2, ground := Ground.guard }], guard := some (2, true) }, { dst := some 27, op := Op.load 27 (Operand.tmp 9), type := 27, pos := "law.go:87", after := #[{ on := 6, ground := Ground.guard }], guard := some (6, false) }, { dst := some 28, op := Op.load 24 (Operand.tmp 4), type := 24, pos := "law.go:87", after := #[{ on := 6, ground := Ground.guard }], guard := some (6, false) }, { dst := some 29, op := Op.binOp BinOp.neq 27 (Operand.tmp 27) (Operand.tmp 28) 27, type := 4, pos := "law.go:87", after := #[{ on := 7, ground := Ground.data }, { on := 8, ground := Ground.data }, { on := 6, ground := Ground.guard }], guard := some (6, false) }, { dst := some 30, op := Op.pick (Operand.tmp 26) (Operand.const (Value.bool true)) (Operand.tmp 29), type := 4, pos := "law.go:87", after := #[{ on := 6, ground := Ground.data }, { on := 9, ground := Ground.data }, { on := 2, ground := Ground.guard }], guard := some (2, true) }, { dst := some 31, op := Op.pick (Operand.tmp 22) (Operand.tmp 30) (Operand.const (Value.bool false)), type := 4, pos := "law.go:87", after := #[{ on := 2, ground := Ground.data }, { on := 10, ground := Ground.data }], guard := none }, { dst := some 32, op := Op.move (Operand.tmp 31), type := 4, pos := "law.go:87", after := #[{ on := 11, ground := Ground.data }, { on := 6, ground := Ground.chain }], guard := none }, { dst := some 33, op := Op.move (Operand.tmp 0), type := 3, pos := "law.go:87", after := #[{ on := 12, ground := Ground.guard }], guard := some (12, false) }, { dst := some 34, op := Op.binOp BinOp.neq 3 (Operand.tmp 33) (Operand.const (Value.int IntKind.i64 1)) 3, type := 4, pos := "law.go:87", after := #[{ on := 13, ground := Ground.data }, { on := 12, ground := Ground.guard }], guard := some (12, false) }, { dst := some 35, op := Op.move (Operand.tmp 34), type := 4, pos := "law.go:87", after := #[{ on := 14, ground := Ground.data }, { on := 12, ground := Ground.chain }, { on := 12, ground := Ground.guard }], guard := some (12, false) }, { dst := some 36, op := Op.load 27 (Operand.tmp 8), type := 27, pos := "law.go:87", after := #[{ on := 15, ground := Ground.guard }], guard := some (15, true) }, { dst := some 37, op := Op.load 24 (Operand.tmp 4), type := 24, pos := "law.go:87", after := #[{ on := 15, ground := Ground.guard }], guard := some (15, true) }, { dst := some 38, op := Op.binOp BinOp.neq 27 (Operand.tmp 36) (Operand.tmp 37) 27, type := 4, pos := "law.go:87", after := #[{ on := 16, ground := Ground.data }, { on := 17, ground := Ground.data }, { on := 15, ground := Ground.guard }], guard := some (15, true) }, { dst := some 39, op := Op.move (Operand.tmp 38), type := 4, pos := "law.go:87", after := #[{ on := 18, ground := Ground.data }, { on := 15, ground := Ground.chain }, { on := 15, ground := Ground.guard }], guard := some (15, true) }, { dst := some 40, op := Op.load 27 (Operand.tmp 9), type := 27, pos := "law.go:87", after := #[{ on := 19, ground := Ground.guard }], guard := some (19, false) }, { dst := some 41, op := Op.load 24 (Operand.tmp 5), type := 24, pos := "law.go:87", after := #[{ on := 19, ground := Ground.guard }], guard := some (19, false) }, { dst := some 42, op := Op.binOp BinOp.neq 27 (Operand.tmp 40) (Operand.tmp 41) 27, type := 4, pos := "law.go:87", after := #[{ on := 20, ground := Ground.data }, { on := 21, ground := Ground.data }, { on := 19, ground := Ground.guard }], guard := some (19, false) }, { dst := some 43, op := Op.pick (Operand.tmp 39) (Operand.const (Value.bool true)) (Operand.tmp 42), type := 4, pos := "law.go:87", after := #[{ on := 19, ground := Ground.data }, { on := 22, ground := Ground.data }, { on := 15, ground := Ground.guard }], guard := some (15, true) }, { dst := some 44, op := Op.pick (Operand.tmp 35) (Operand.tmp 43) (Operand.const (Value.bool false)), type := 4, pos := "law.go:87", after := #[{ on := 15, ground := Ground.data }, { on := 23, ground := Ground.data }, { on := 12, ground := Ground.guard }], guard := some (12, false) }, { dst := some 45, op := Op.pick (Operand.tmp 32) (Operand.const (Value.bool true)) (Operand.tmp 44), type := 4, pos := "law.go:87", after := #[{ on := 12, ground := Ground.data }, { on := 24, ground := Ground.data }], guard := none }]) (WL.out ?_)
  refine WL.take (v := ?_) (by rfl) ?_ ?_
  rotate_left
  · first | (go_simp; done) | (go_simp; with_reducible rfl)
  try simp only [Act.put, List.setIfInBounds_toArray, List.set_cons_zero, List.set_cons_succ]
  refine WL.take (v := ?_) (by rfl) ?_ ?_
  rotate_left
  · first | (go_simp; done) | (go_simp; with_reducible rfl)
  try simp only [Act.put, List.setIfInBounds_toArray, List.set_cons_zero, List.set_cons_succ]
  refine WL.take (v := ?_) (by rfl) ?_ ?_
  rotate_left
  · first | (go_simp; done) | (go_simp; with_reducible rfl)
  try simp only [Act.put, List.setIfInBounds_toArray, List.set_cons_zero, List.set_cons_succ]
  refine WL.skip (by first | (go_simp; done) | (go_simp; simp [undef]; done) | (go_simp; decide)) ?_
  try simp only [Act.put, List.setIfInBounds_toArray, List.set_cons_zero, List.set_cons_succ]
  refine WL.skip (by first | (go_simp; done) | (go_simp; simp [undef]; done) | (go_simp; decide)) ?_
  try simp only [Act.put, List.setIfInBounds_toArray, List.set_cons_zero, List.set_cons_succ]
  refine WL.skip (by first | (go_simp; done) | (go_simp; simp [undef]; done) | (go_simp; decide)) ?_
  try simp only [Act.put, List.setIfInBounds_toArray, List.set_cons_zero, List.set_cons_succ]
  refine WL.skip (by first | (go_simp; done) | (go_simp; simp [undef]; done) | (go_simp; decide)) ?_
  try simp only [Act.put, List.setIfInBounds_toArray, List.set_cons_zero, List.set_cons_succ]
  refine WL.skip (by first | (go_simp; done) | (go_simp; simp [undef]; done) | (go_simp; decide)) ?_
  try simp only [Act.put, List.setIfInBounds_toArray, List.set_cons_zero, List.set_cons_succ]
  refine WL.skip (by first | (go_simp; done) | (go_simp; simp [undef]; done) | (go_simp; decide)) ?_
  try simp only [Act.put, List.setIfInBounds_toArray, List.set_cons_zero, List.set_cons_succ]
  refine WL.skip (by first | (go_simp; done) | (go_simp; simp [undef]; done) | (go_simp; decide)) ?_
  try simp only [Act.put, List.setIfInBounds_toArray, List.set_cons_zero, List.set_cons_succ]
  refine WL.skip (by first | (go_simp; done) | (go_simp; simp [undef]; done) | (go_simp; decide)) ?_
  try simp only [Act.put, List.setIfInBounds_toArray, List.set_cons_zero, List.set_cons_succ]
  refine WL.take (v := ?_) (by rfl) ?_ ?_
  rotate_left
  · first | (go_simp; done) | (go_simp; with_reducible rfl)
  try simp only [Act.put, List.setIfInBounds_toArray, List.set_cons_zero, List.set_cons_succ]
  refine WL.take (v := ?_) (by rfl) ?_ ?_
  rotate_left
  · first | (go_simp; done) | (go_simp; with_reducible rfl)
  try simp only [Act.put, List.setIfInBounds_toArray, List.set_cons_zero, List.set_cons_succ]
  refine WL.take (v := ?_) (by go_simp) ?_ ?_
  rotate_left
  · first | (go_simp; done) | (go_simp; with_reducible rfl)
  try simp only [Act.put, List.setIfInBounds_toArray, List.set_cons_zero, List.set_cons_succ]
  refine WL.take (v := ?_) (by go_simp) ?_ ?_
  rotate_left
  · first | (go_simp; done) | (go_simp; with_reducible rfl)
  try simp only [Act.put, List.setIfInBounds_toArray, List.set_cons_zero, List.set_cons_succ]
  refine WL.take (v := ?_) (by go_simp) ?_ ?_
  rotate_left
  · first | (go_simp; done) | (go_simp; with_reducible rfl)
  try simp only [Act.put, List.setIfInBounds_toArray, List.set_cons_zero, List.set_cons_succ]
  refine WL.take (v := ?_) (by go_simp) ?_ ?_
  rotate_left
  · refine Eq.trans (exec_load_row' 27 _ (by rfl) (by rfl) r6 (Below.refl _ _) _ Try.underlying27 rfl (elInfo ha)) ?_; with_reducible rfl
  try simp only [Act.put, List.setIfInBounds_toArray, List.set_cons_zero, List.set_cons_succ]
  refine WL.take (v := ?_) (by go_simp) ?_ ?_
  rotate_left
  · refine Eq.trans (exec_load_row' 24 _ (by rfl) (by rfl) ra (Below.refl _ _) _ Try.underlying24 rfl (arInfo ha)) ?_; with_reducible rfl
  try simp only [Act.put, List.setIfInBounds_toArray, List.set_cons_zero, List.set_cons_succ]
  refine WL.take (v := ?_) (by go_simp) ?_ ?_
  rotate_left
  · first | (go_simp; done) | (go_simp; with_reducible rfl)
  try simp only [Act.put, List.setIfInBounds_toArray, List.set_cons_zero, List.set_cons_succ]
  refine WL.take (v := ?_) (by go_simp) ?_ ?_
  rotate_left
  · first | (go_simp; done) | (go_simp; with_reducible rfl)
  try simp only [Act.put, List.setIfInBounds_toArray, List.set_cons_zero, List.set_cons_succ]
  refine WL.take (v := ?_) (by go_simp) ?_ ?_
  rotate_left
  · refine Eq.trans (exec_load_row' 27 _ (by rfl) (by rfl) r7 (Below.refl _ _) _ Try.underlying27 rfl (elInfo hb)) ?_; with_reducible rfl
  try simp only [Act.put, List.setIfInBounds_toArray, List.set_cons_zero, List.set_cons_succ]
  refine WL.take (v := ?_) (by go_simp) ?_ ?_
  rotate_left
  · refine Eq.trans (exec_load_row' 24 _ (by rfl) (by rfl) rb (Below.refl _ _) _ Try.underlying24 rfl (arInfo hb)) ?_; with_reducible rfl
  try simp only [Act.put, List.setIfInBounds_toArray, List.set_cons_zero, List.set_cons_succ]
  refine WL.take (v := ?_) (by go_simp) ?_ ?_
  rotate_left
  · first | (go_simp; done) | (go_simp; with_reducible rfl)
  try simp only [Act.put, List.setIfInBounds_toArray, List.set_cons_zero, List.set_cons_succ]
  refine WL.take (v := ?_) (by go_simp) ?_ ?_
  rotate_left
  · first | (go_simp; done) | (go_simp; with_reducible rfl)
  try simp only [Act.put, List.setIfInBounds_toArray, List.set_cons_zero, List.set_cons_succ]
  refine WL.take (v := ?_) (by go_simp) ?_ ?_
  rotate_left
  · first | (go_simp; done) | (go_simp; with_reducible rfl)
  try simp only [Act.put, List.setIfInBounds_toArray, List.set_cons_zero, List.set_cons_succ]
  refine WL.take (v := ?_) (by rfl) ?_ ?_
  rotate_left
  · first | (go_simp; done) | (go_simp; with_reducible rfl)
  try simp only [Act.put, List.setIfInBounds_toArray, List.set_cons_zero, List.set_cons_succ]
  refine WL.nil ?_
  go_upto_region 7 with fail
  clear q1 q2
  have hB : Below w7.heap.size w7 w7.drew := (Below.refl _ _).drew
  refine wpB_begin (Below.refl w7.heap.size w7) (by kernel_rfl) ?_
  refine wpB_take (hb := hB) (i := 0) (oi := { dst := some 46, op := Op.load 24 (Operand.tmp 4), type := 24, pos := "law.go:90", after := #[], guard := none }) (v := ?_) rfl (by kernel_rfl) (by kernel_rfl) (by kernel_rfl) (by rfl) ?_ ?_
  rotate_left
  · intro W hW; refine Eq.trans (exec_load_row' 24 _ (by rfl) (by rfl) ra hW _ Try.underlying24 rfl (arInfo ha)) ?_; with_reducible rfl
  try simp only [Act.put, List.setIfInBounds_toArray, List.set_cons_zero, List.set_cons_succ]
  refine wpB_take (hb := hB) (i := 1) (oi := { dst := some 47, op := Op.load 24 (Operand.tmp 5), type := 24, pos := "law.go:90", after := #[], guard := none }) (v := ?_) rfl (by kernel_rfl) (by kernel_rfl) (by kernel_rfl) (by rfl) ?_ ?_
  rotate_left
  · intro W hW; refine Eq.trans (exec_load_row' 24 _ (by rfl) (by rfl) rb hW _ Try.underlying24 rfl (arInfo hb)) ?_; with_reducible rfl
  try simp only [Act.put, List.setIfInBounds_toArray, List.set_cons_zero, List.set_cons_succ]
  refine wpB_take (hb := hB) (i := 3) (oi := { dst := some 49, op := Op.load 24 (Operand.tmp 4), type := 24, pos := "law.go:90", after := #[], guard := none }) (v := ?_) rfl (by kernel_rfl) (by kernel_rfl) (by kernel_rfl) (by rfl) ?_ ?_
  rotate_left
  · intro W hW; refine Eq.trans (exec_load_row' 24 _ (by rfl) (by rfl) ra hW _ Try.underlying24 rfl (arInfo ha)) ?_; with_reducible rfl
  try simp only [Act.put, List.setIfInBounds_toArray, List.set_cons_zero, List.set_cons_succ]
  refine wpB_take (hb := hB) (i := 5) (oi := { dst := some 51, op := Op.load 24 (Operand.tmp 5), type := 24, pos := "law.go:90", after := #[], guard := none }) (v := ?_) rfl (by kernel_rfl) (by kernel_rfl) (by kernel_rfl) (by rfl) ?_ ?_
  rotate_left
  · intro W hW; refine Eq.trans (exec_load_row' 24 _ (by rfl) (by rfl) rb hW _ Try.underlying24 rfl (arInfo hb)) ?_; with_reducible rfl
  try simp only [Act.put, List.setIfInBounds_toArray, List.set_cons_zero, List.set_cons_succ]
  refine wpB_do (i := 2) (o := { dst := some 48, op := Op.call { callee := Callee.value (Operand.func 27), args := #[Operand.tmp 46, Operand.tmp 47], argTypes := #[27, 27] }, type := 4, pos := "law.go:90", after := #[{ on := 0, ground := Ground.data }, { on := 1, ground := Ground.data }], guard := none }) (by kernel_rfl) rfl (by rfl) fun K hK => ?_
  go_simp
  refine (fsame_any _ _ a b ha hb rfl rfl _).mono ?_
  rintro e w8 ⟨rfl, b8⟩
  replace hB := stepB hB b8
  refine hK.out _ _ hB ?_
  clear hK K
  try simp only [Act.put, List.setIfInBounds_toArray, List.set_cons_zero, List.set_cons_succ]
  refine wpB_do (i := 4) (o := { dst := some 50, op := Op.call { callee := Callee.value (Operand.func 13), args := #[Operand.tmp 49], argTypes := #[24] }, type := 29, pos := "law.go:90", after := #[{ on := 3, ground := Ground.data }, { on := 2, ground := Ground.chain }], guard := none }) (by kernel_rfl) rfl (by rfl) fun K hK => ?_
  go_simp
  refine (numR_any _ a ha.1 ha.2 rfl _).mono ?_
  rintro e w9 ⟨v9, rfl, hR9, b9⟩
  replace hB := stepB hB b9
  refine hK.out _ _ hB ?_
  clear hK K
  try simp only [Act.put, List.setIfInBounds_toArray, List.set_cons_zero, List.set_cons_succ]
  refine wpB_do (i := 6) (o := { dst := some 52, op := Op.call { callee := Callee.value (Operand.func 13), args := #[Operand.tmp 51], argTypes := #[24] }, type := 29, pos := "law.go:90", after := #[{ on := 5, ground := Ground.data }, { on := 4, ground := Ground.chain }], guard := none }) (by kernel_rfl) rfl (by rfl) fun K hK => ?_
  go_simp
  refine (numR_any _ b hb.1 hb.2 rfl _).mono ?_
  rintro e w10 ⟨v10, rfl, hR10, b10⟩
  replace hB := stepB hB b10
  refine hK.out _ _ hB ?_
  clear hK K
  try simp only [Act.put, List.setIfInBounds_toArray, List.set_cons_zero, List.set_cons_succ]
  refine wpB_do (i := 7) (o := { dst := some 53, op := Op.call { callee := Callee.value (Operand.func 24), args := #[Operand.tmp 50, Operand.tmp 52], argTypes := #[29, 29] }, type := 4, pos := "law.go:90", after := #[{ on := 4, ground := Ground.data }, { on := 6, ground := Ground.data }, { on := 6, ground := Ground.chain }], guard := none }) (by kernel_rfl) rfl (by rfl) fun K hK => ?_
  go_simp
  refine (sameR_any _ _ _ _ _ (hR9.kept b10) hR10).mono ?_
  rintro e w11 ⟨rfl, b11⟩
  replace hB := stepB hB b11
  refine hK.out _ _ hB ?_
  clear hK K
  try simp only [Act.put, List.setIfInBounds_toArray, List.set_cons_zero, List.set_cons_succ]
  refine wpB_take (hb := hB) (i := 8) (oi := { dst := some 54, op := Op.binOp BinOp.eql 4 (Operand.tmp 48) (Operand.tmp 53) 4, type := 4, pos := "law.go:90", after := #[{ on := 2, ground := Ground.data }, { on := 7, ground := Ground.data }], guard := none }) (v := ?_) rfl (by kernel_rfl) (by kernel_rfl) (by kernel_rfl) (by rfl) ?_ ?_
  rotate_left
  · intro W hW; first | (go_simp; done) | (go_simp; with_reducible rfl)
  try simp only [Act.put, List.setIfInBounds_toArray, List.set_cons_zero, List.set_cons_succ]
  refine wpB_take (hb := hB) (i := 9) (oi := { dst := some 6, op := Op.assign (Operand.tmp 54), type := 4, pos := "law.go:90", after := #[{ on := 8, ground := Ground.data }, { on := 7, ground := Ground.chain }, { on := 0, ground := Ground.phase }, { on := 1, ground := Ground.phase }, { on := 2, ground := Ground.phase }, { on := 3, ground := Ground.phase }, { on := 4, ground := Ground.phase }, { on := 5, ground := Ground.phase }, { on := 6, ground := Ground.phase }, { on := 7, ground := Ground.phase }, { on := 8, ground := Ground.phase }], guard := none }) (v := ?_) rfl (by kernel_rfl) (by kernel_rfl) (by kernel_rfl) (by rfl) ?_ ?_
  rotate_left
  · intro W hW; first | (go_simp; done) | (go_simp; with_reducible rfl)
  try simp only [Act.put, List.setIfInBounds_toArray, List.set_cons_zero, List.set_cons_succ]
  refine wpB_done (by kernel_rfl) ?_
  generalize decide (wv a % pN = wv b % pN) = d
  go_wp2
  go_ret
  exact ⟨by simp, stepB hbw hB⟩

theorem same_walk (bit : Int) (Aa : Array Value) (a : List Nat) (ha : El4 a) (hA : Aa = ((nI a).map (Value.int .u64)).toArray) (Ba : Array Value) (b : List Nat) (hb : El4 b) (hB : Ba = ((nI b).map (Value.int .u64)).toArray) (w : World) :
    Calls Try.prog 8 #[.int .i64 bit, .agg Aa, .agg Ba] w fun e w' => e = .returned (.bool true) ∧ Below w.heap.size w w' := by
  by_cases h : bit = 1
  · exact same_one bit h Aa a ha hA Ba b hb hB w
  · exact same_other bit h Aa a ha hA Ba b hb hB w
end Go.Proofs.Ytikkfmghjfddfaa
