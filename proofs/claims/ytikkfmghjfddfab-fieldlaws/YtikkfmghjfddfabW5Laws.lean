/- What the law FieldLaws answers at every input: the walk. -/
import Derived.Test.YtikkfmghjfddfabF05j
namespace Go.Proofs.Ytikkfmghjfddfab
open Go.ChangeShapes Go.WideShapes Go.ChangeAt Go.RowKit
set_option linter.unusedSimpArgs false
set_option linter.unusedVariables false

theorem addm {X Y Z E F : Nat} (h : Z % pN = (X + Y) % pN) (h1 : X % pN = E % pN) (h2 : Y % pN = F % pN) : Z % pN = (E + F) % pN := by
  rw [h, Nat.add_mod, h1, h2, ← Nat.add_mod]
theorem mulm {X Y Z E F : Nat} (h : Z % pN = X * Y % pN) (h1 : X % pN = E % pN) (h2 : Y % pN = F % pN) : Z % pN = E * F % pN := by
  rw [h, Nat.mul_mod, h1, h2, ← Nat.mul_mod]
theorem law_dist (a b c : Nat) : a * (b + c) % pN = (a * b + a * c) % pN := by rw [Nat.mul_add]
theorem law_none {Z A : Nat} (h : (Z + A) % pN = A % pN) : Z % pN = wv z4 % pN := by
  rw [z4_wv]
  rw [pN_val] at h ⊢
  omega

set_option maxRecDepth 100000 in
set_option maxHeartbeats 8000000 in
theorem laws_walk (Aa : Array Value) (a : List Nat) (ha : El4 a) (hAa : Aa = ((nI a).map (Value.int .u64)).toArray) (Ba : Array Value) (b : List Nat) (hb : El4 b) (hAb : Ba = ((nI b).map (Value.int .u64)).toArray) (Ca : Array Value) (c : List Nat) (hc : El4 c) (hAc : Ca = ((nI c).map (Value.int .u64)).toArray) (w : World) :
    Calls Try.prog 3 #[.agg Aa, .agg Ba, .agg Ca] w fun e w' => e = .returned (.bool true) ∧ Below w.heap.size w w' := by
  go_enter Try.func3, Try.ntmps3
  go_wp2_with (refine wpList_box_row (k := .u64) rfl 23 _ rfl (nI a) (by rw [← hAa]; rfl) ha.ne (elMax ha) ?_)
  intro w1 ra bn sn
  rw [ha.len] at ra
  clear sn
  have hbw := bn
  clear bn
  go_wp2_with (refine wpList_box_row (k := .u64) rfl 23 _ rfl (nI b) (by rw [← hAb]; rfl) hb.ne (elMax hb) ?_)
  intro w2 rb bn sn
  rw [hb.len] at rb
  clear sn
  replace ra := ra.kept bn
  replace hbw := stepB hbw bn
  clear bn
  go_wp2_with (refine wpList_box_row (k := .u64) rfl 23 _ rfl (nI c) (by rw [← hAc]; rfl) hc.ne (elMax hc) ?_)
  intro w3 rc bn sn
  rw [hc.len] at rc
  clear sn
  replace ra := ra.kept bn
  replace rb := rb.kept bn
  replace hbw := stepB hbw bn
  clear bn
  go_wp2_with fail
  refine (awake_any _).mono ?_
  rintro e wa ⟨rfl, bn⟩
  replace ra := ra.kept bn
  replace rb := rb.kept bn
  replace rc := rc.kept bn
  replace hbw := stepB hbw bn
  clear bn
  go_wp2_with fail
  have hB : Below wa.heap.size wa wa.drew := (Below.refl _ _).drew
  refine wpB_begin (Below.refl wa.heap.size wa) (by kernel_rfl) ?_
  refine wpB_take (hb := hB) (i := 0) (oi := { dst := some 16, op := Op.load 23 (Operand.tmp 3), type := 23, pos := "law.go:99", after := #[], guard := none }) (v := ?_) rfl (by kernel_rfl) (by kernel_rfl) (by kernel_rfl) (by rfl) ?_ ?_
  rotate_left
  · intro W hW; refine Eq.trans (exec_load_row' 23 _ (by rfl) (by rfl) ra hW _ Try.underlying23 rfl (arInfo ha)) ?_; with_reducible rfl
  try simp only [Act.put, List.setIfInBounds_toArray, List.set_cons_zero, List.set_cons_succ]
  refine wpB_take (hb := hB) (i := 1) (oi := { dst := some 17, op := Op.load 23 (Operand.tmp 4), type := 23, pos := "law.go:99", after := #[], guard := none }) (v := ?_) rfl (by kernel_rfl) (by kernel_rfl) (by kernel_rfl) (by rfl) ?_ ?_
  rotate_left
  · intro W hW; refine Eq.trans (exec_load_row' 23 _ (by rfl) (by rfl) rb hW _ Try.underlying23 rfl (arInfo hb)) ?_; with_reducible rfl
  try simp only [Act.put, List.setIfInBounds_toArray, List.set_cons_zero, List.set_cons_succ]
  refine wpB_take (hb := hB) (i := 3) (oi := { dst := some 19, op := Op.load 23 (Operand.tmp 4), type := 23, pos := "law.go:99", after := #[], guard := none }) (v := ?_) rfl (by kernel_rfl) (by kernel_rfl) (by kernel_rfl) (by rfl) ?_ ?_
  rotate_left
  · intro W hW; refine Eq.trans (exec_load_row' 23 _ (by rfl) (by rfl) rb hW _ Try.underlying23 rfl (arInfo hb)) ?_; with_reducible rfl
  try simp only [Act.put, List.setIfInBounds_toArray, List.set_cons_zero, List.set_cons_succ]
  refine wpB_take (hb := hB) (i := 4) (oi := { dst := some 20, op := Op.load 23 (Operand.tmp 3), type := 23, pos := "law.go:99", after := #[], guard := none }) (v := ?_) rfl (by kernel_rfl) (by kernel_rfl) (by kernel_rfl) (by rfl) ?_ ?_
  rotate_left
  · intro W hW; refine Eq.trans (exec_load_row' 23 _ (by rfl) (by rfl) ra hW _ Try.underlying23 rfl (arInfo ha)) ?_; with_reducible rfl
  try simp only [Act.put, List.setIfInBounds_toArray, List.set_cons_zero, List.set_cons_succ]
  refine wpB_do (i := 2) (o := { dst := some 18, op := Op.call { callee := Callee.value (Operand.func 9), args := #[Operand.tmp 16, Operand.tmp 17], argTypes := #[26, 26] }, type := 26, pos := "law.go:99", after := #[{ on := 0, ground := Ground.data }, { on := 1, ground := Ground.data }], guard := none }) (by kernel_rfl) rfl (by rfl) fun K hK => ?_
  go_simp
  refine (fadd_any _ _ a b ha hb rfl rfl _).mono ?_
  rintro e w4_2 ⟨x4_2, rfl, hx4_2, vx4_2, bx4_2⟩
  replace hB := stepB hB bx4_2
  refine hK.out _ _ hB ?_
  clear hK K
  try simp only [Act.put, List.setIfInBounds_toArray, List.set_cons_zero, List.set_cons_succ]
  refine wpB_do (i := 5) (o := { dst := some 21, op := Op.call { callee := Callee.value (Operand.func 9), args := #[Operand.tmp 19, Operand.tmp 20], argTypes := #[26, 26] }, type := 26, pos := "law.go:99", after := #[{ on := 3, ground := Ground.data }, { on := 4, ground := Ground.data }, { on := 2, ground := Ground.chain }], guard := none }) (by kernel_rfl) rfl (by rfl) fun K hK => ?_
  go_simp
  refine (fadd_any _ _ b a hb ha rfl rfl _).mono ?_
  rintro e w4_5 ⟨x4_5, rfl, hx4_5, vx4_5, bx4_5⟩
  replace hB := stepB hB bx4_5
  refine hK.out _ _ hB ?_
  clear hK K
  try simp only [Act.put, List.setIfInBounds_toArray, List.set_cons_zero, List.set_cons_succ]
  refine wpB_do (i := 6) (o := { dst := some 22, op := Op.call { callee := Callee.value (Operand.func 8), args := #[Operand.tmp 18, Operand.tmp 21], argTypes := #[26, 26] }, type := 4, pos := "law.go:99", after := #[{ on := 2, ground := Ground.data }, { on := 5, ground := Ground.data }, { on := 5, ground := Ground.chain }], guard := none }) (by kernel_rfl) rfl (by rfl) fun K hK => ?_
  go_simp
  refine (fsame_true _ _ x4_2 x4_5 hx4_2 hx4_5 (by rw [vx4_2, vx4_5, Nat.add_comm]) rfl rfl _).mono ?_
  rintro e w4_6 ⟨rfl, bx4_6⟩
  replace hB := stepB hB bx4_6
  refine hK.out _ _ hB ?_
  clear hK K
  try simp only [Act.put, List.setIfInBounds_toArray, List.set_cons_zero, List.set_cons_succ]
  refine wpB_take (hb := hB) (i := 7) (oi := { dst := some 23, op := Op.move (Operand.tmp 22), type := 4, pos := "law.go:99", after := #[{ on := 6, ground := Ground.data }, { on := 6, ground := Ground.chain }], guard := none }) (v := ?_) rfl (by kernel_rfl) (by kernel_rfl) (by kernel_rfl) (by rfl) ?_ ?_
  rotate_left
  · intro W hW; first | (go_simp; done) | (go_simp; with_reducible rfl)
  try simp only [Act.put, List.setIfInBounds_toArray, List.set_cons_zero, List.set_cons_succ]
  refine wpB_take (hb := hB) (i := 8) (oi := { dst := some 24, op := Op.load 23 (Operand.tmp 3), type := 23, pos := "law.go:99", after := #[{ on := 7, ground := Ground.guard }], guard := some (7, true) }) (v := ?_) rfl (by kernel_rfl) (by kernel_rfl) (by kernel_rfl) (by rfl) ?_ ?_
  rotate_left
  · intro W hW; refine Eq.trans (exec_load_row' 23 _ (by rfl) (by rfl) ra hW _ Try.underlying23 rfl (arInfo ha)) ?_; with_reducible rfl
  try simp only [Act.put, List.setIfInBounds_toArray, List.set_cons_zero, List.set_cons_succ]
  refine wpB_take (hb := hB) (i := 9) (oi := { dst := some 25, op := Op.load 23 (Operand.tmp 4), type := 23, pos := "law.go:99", after := #[{ on := 7, ground := Ground.guard }], guard := some (7, true) }) (v := ?_) rfl (by kernel_rfl) (by kernel_rfl) (by kernel_rfl) (by rfl) ?_ ?_
  rotate_left
  · intro W hW; refine Eq.trans (exec_load_row' 23 _ (by rfl) (by rfl) rb hW _ Try.underlying23 rfl (arInfo hb)) ?_; with_reducible rfl
  try simp only [Act.put, List.setIfInBounds_toArray, List.set_cons_zero, List.set_cons_succ]
  refine wpB_take (hb := hB) (i := 11) (oi := { dst := some 27, op := Op.load 23 (Operand.tmp 4), type := 23, pos := "law.go:99", after := #[{ on := 7, ground := Ground.guard }], guard := some (7, true) }) (v := ?_) rfl (by kernel_rfl) (by kernel_rfl) (by kernel_rfl) (by rfl) ?_ ?_
  rotate_left
  · intro W hW; refine Eq.trans (exec_load_row' 23 _ (by rfl) (by rfl) rb hW _ Try.underlying23 rfl (arInfo hb)) ?_; with_reducible rfl
  try simp only [Act.put, List.setIfInBounds_toArray, List.set_cons_zero, List.set_cons_succ]
  refine wpB_take (hb := hB) (i := 12) (oi := { dst := some 28, op := Op.load 23 (Operand.tmp 3), type := 23, pos := "law.go:99", after := #[{ on := 7, ground := Ground.guard }], guard := some (7, true) }) (v := ?_) rfl (by kernel_rfl) (by kernel_rfl) (by kernel_rfl) (by rfl) ?_ ?_
  rotate_left
  · intro W hW; refine Eq.trans (exec_load_row' 23 _ (by rfl) (by rfl) ra hW _ Try.underlying23 rfl (arInfo ha)) ?_; with_reducible rfl
  try simp only [Act.put, List.setIfInBounds_toArray, List.set_cons_zero, List.set_cons_succ]
  refine wpB_do (i := 10) (o := { dst := some 26, op := Op.call { callee := Callee.value (Operand.func 10), args := #[Operand.tmp 24, Operand.tmp 25], argTypes := #[26, 26] }, type := 26, pos := "law.go:99", after := #[{ on := 8, ground := Ground.data }, { on := 9, ground := Ground.data }, { on := 7, ground := Ground.chain }, { on := 7, ground := Ground.guard }], guard := some (7, true) }) (by kernel_rfl) rfl (by rfl) fun K hK => ?_
  go_simp
  refine (fmul_any _ _ a b ha hb rfl rfl _).mono ?_
  rintro e w4_10 ⟨x4_10, rfl, hx4_10, vx4_10, bx4_10⟩
  replace hB := stepB hB bx4_10
  refine hK.out _ _ hB ?_
  clear hK K
  try simp only [Act.put, List.setIfInBounds_toArray, List.set_cons_zero, List.set_cons_succ]
  refine wpB_do (i := 13) (o := { dst := some 29, op := Op.call { callee := Callee.value (Operand.func 10), args := #[Operand.tmp 27, Operand.tmp 28], argTypes := #[26, 26] }, type := 26, pos := "law.go:99", after := #[{ on := 11, ground := Ground.data }, { on := 12, ground := Ground.data }, { on := 10, ground := Ground.chain }, { on := 7, ground := Ground.guard }], guard := some (7, true) }) (by kernel_rfl) rfl (by rfl) fun K hK => ?_
  go_simp
  refine (fmul_any _ _ b a hb ha rfl rfl _).mono ?_
  rintro e w4_13 ⟨x4_13, rfl, hx4_13, vx4_13, bx4_13⟩
  replace hB := stepB hB bx4_13
  refine hK.out _ _ hB ?_
  clear hK K
  try simp only [Act.put, List.setIfInBounds_toArray, List.set_cons_zero, List.set_cons_succ]
  refine wpB_do (i := 14) (o := { dst := some 30, op := Op.call { callee := Callee.value (Operand.func 8), args := #[Operand.tmp 26, Operand.tmp 29], argTypes := #[26, 26] }, type := 4, pos := "law.go:99", after := #[{ on := 10, ground := Ground.data }, { on := 13, ground := Ground.data }, { on := 13, ground := Ground.chain }, { on := 7, ground := Ground.guard }], guard := some (7, true) }) (by kernel_rfl) rfl (by rfl) fun K hK => ?_
  go_simp
  refine (fsame_true _ _ x4_10 x4_13 hx4_10 hx4_13 (by rw [vx4_10, vx4_13, Nat.mul_comm]) rfl rfl _).mono ?_
  rintro e w4_14 ⟨rfl, bx4_14⟩
  replace hB := stepB hB bx4_14
  refine hK.out _ _ hB ?_
  clear hK K
  try simp only [Act.put, List.setIfInBounds_toArray, List.set_cons_zero, List.set_cons_succ]
  refine wpB_take (hb := hB) (i := 15) (oi := { dst := some 31, op := Op.pick (Operand.tmp 23) (Operand.tmp 30) (Operand.const (Value.bool false)), type := 4, pos := "law.go:99", after := #[{ on := 7, ground := Ground.data }, { on := 14, ground := Ground.data }], guard := none }) (v := ?_) rfl (by kernel_rfl) (by kernel_rfl) (by kernel_rfl) (by rfl) ?_ ?_
  rotate_left
  · intro W hW; first | (go_simp; done) | (go_simp; with_reducible rfl)
  try simp only [Act.put, List.setIfInBounds_toArray, List.set_cons_zero, List.set_cons_succ]
  refine wpB_take (hb := hB) (i := 16) (oi := { dst := some 8, op := Op.assign (Operand.tmp 31), type := 4, pos := "law.go:99", after := #[{ on := 15, ground := Ground.data }, { on := 14, ground := Ground.chain }, { on := 0, ground := Ground.phase }, { on := 1, ground := Ground.phase }, { on := 2, ground := Ground.phase }, { on := 3, ground := Ground.phase }, { on := 4, ground := Ground.phase }, { on := 5, ground := Ground.phase }, { on := 6, ground := Ground.phase }, { on := 7, ground := Ground.phase }, { on := 8, ground := Ground.phase }, { on := 9, ground := Ground.phase }, { on := 10, ground := Ground.phase }, { on := 11, ground := Ground.phase }, { on := 12, ground := Ground.phase }, { on := 13, ground := Ground.phase }, { on := 14, ground := Ground.phase }, { on := 15, ground := Ground.phase }], guard := none }) (v := ?_) rfl (by kernel_rfl) (by kernel_rfl) (by kernel_rfl) (by rfl) ?_ ?_
  rotate_left
  · intro W hW; first | (go_simp; done) | (go_simp; with_reducible rfl)
  try simp only [Act.put, List.setIfInBounds_toArray, List.set_cons_zero, List.set_cons_succ]
  refine wpB_done (by kernel_rfl) ?_
  replace ra := ra.kept hB
  replace rb := rb.kept hB
  replace rc := rc.kept hB
  replace hbw := stepB hbw hB
  clear hB
  clear hx4_2 vx4_2 bx4_2 hx4_5 vx4_5 bx4_5 bx4_6 hx4_10 vx4_10 bx4_10 hx4_13 vx4_13 bx4_13 bx4_14
  go_wp2_with fail
  have hB : Below w4_14.heap.size w4_14 w4_14.drew := (Below.refl _ _).drew
  refine wpB_begin (Below.refl w4_14.heap.size w4_14) (by kernel_rfl) ?_
  refine wpB_take (hb := hB) (i := 0) (oi := { dst := some 32, op := Op.load 23 (Operand.tmp 3), type := 23, pos := "law.go:100", after := #[], guard := none }) (v := ?_) rfl (by kernel_rfl) (by kernel_rfl) (by kernel_rfl) (by rfl) ?_ ?_
  rotate_left
  · intro W hW; refine Eq.trans (exec_load_row' 23 _ (by rfl) (by rfl) ra hW _ Try.underlying23 rfl (arInfo ha)) ?_; with_reducible rfl
  try simp only [Act.put, List.setIfInBounds_toArray, List.set_cons_zero, List.set_cons_succ]
  refine wpB_take (hb := hB) (i := 1) (oi := { dst := some 33, op := Op.load 23 (Operand.tmp 4), type := 23, pos := "law.go:100", after := #[], guard := none }) (v := ?_) rfl (by kernel_rfl) (by kernel_rfl) (by kernel_rfl) (by rfl) ?_ ?_
  rotate_left
  · intro W hW; refine Eq.trans (exec_load_row' 23 _ (by rfl) (by rfl) rb hW _ Try.underlying23 rfl (arInfo hb)) ?_; with_reducible rfl
  try simp only [Act.put, List.setIfInBounds_toArray, List.set_cons_zero, List.set_cons_succ]
  refine wpB_take (hb := hB) (i := 3) (oi := { dst := some 35, op := Op.load 23 (Operand.tmp 5), type := 23, pos := "law.go:100", after := #[], guard := none }) (v := ?_) rfl (by kernel_rfl) (by kernel_rfl) (by kernel_rfl) (by rfl) ?_ ?_
  rotate_left
  · intro W hW; refine Eq.trans (exec_load_row' 23 _ (by rfl) (by rfl) rc hW _ Try.underlying23 rfl (arInfo hc)) ?_; with_reducible rfl
  try simp only [Act.put, List.setIfInBounds_toArray, List.set_cons_zero, List.set_cons_succ]
  refine wpB_take (hb := hB) (i := 5) (oi := { dst := some 37, op := Op.load 23 (Operand.tmp 3), type := 23, pos := "law.go:100", after := #[], guard := none }) (v := ?_) rfl (by kernel_rfl) (by kernel_rfl) (by kernel_rfl) (by rfl) ?_ ?_
  rotate_left
  · intro W hW; refine Eq.trans (exec_load_row' 23 _ (by rfl) (by rfl) ra hW _ Try.underlying23 rfl (arInfo ha)) ?_; with_reducible rfl
  try simp only [Act.put, List.setIfInBounds_toArray, List.set_cons_zero, List.set_cons_succ]
  refine wpB_take (hb := hB) (i := 6) (oi := { dst := some 38, op := Op.load 23 (Operand.tmp 4), type := 23, pos := "law.go:100", after := #[], guard := none }) (v := ?_) rfl (by kernel_rfl) (by kernel_rfl) (by kernel_rfl) (by rfl) ?_ ?_
  rotate_left
  · intro W hW; refine Eq.trans (exec_load_row' 23 _ (by rfl) (by rfl) rb hW _ Try.underlying23 rfl (arInfo hb)) ?_; with_reducible rfl
  try simp only [Act.put, List.setIfInBounds_toArray, List.set_cons_zero, List.set_cons_succ]
  refine wpB_take (hb := hB) (i := 7) (oi := { dst := some 39, op := Op.load 23 (Operand.tmp 5), type := 23, pos := "law.go:100", after := #[], guard := none }) (v := ?_) rfl (by kernel_rfl) (by kernel_rfl) (by kernel_rfl) (by rfl) ?_ ?_
  rotate_left
  · intro W hW; refine Eq.trans (exec_load_row' 23 _ (by rfl) (by rfl) rc hW _ Try.underlying23 rfl (arInfo hc)) ?_; with_reducible rfl
  try simp only [Act.put, List.setIfInBounds_toArray, List.set_cons_zero, List.set_cons_succ]
  refine wpB_do (i := 2) (o := { dst := some 34, op := Op.call { callee := Callee.value (Operand.func 9), args := #[Operand.tmp 32, Operand.tmp 33], argTypes := #[26, 26] }, type := 26, pos := "law.go:100", after := #[{ on := 0, ground := Ground.data }, { on := 1, ground := Ground.data }], guard := none }) (by kernel_rfl) rfl (by rfl) fun K hK => ?_
  go_simp
  refine (fadd_any _ _ a b ha hb rfl rfl _).mono ?_
  rintro e w5_2 ⟨x5_2, rfl, hx5_2, vx5_2, bx5_2⟩
  replace hB := stepB hB bx5_2
  refine hK.out _ _ hB ?_
  clear hK K
  try simp only [Act.put, List.setIfInBounds_toArray, List.set_cons_zero, List.set_cons_succ]
  refine wpB_do (i := 4) (o := { dst := some 36, op := Op.call { callee := Callee.value (Operand.func 9), args := #[Operand.tmp 34, Operand.tmp 35], argTypes := #[26, 26] }, type := 26, pos := "law.go:100", after := #[{ on := 2, ground := Ground.data }, { on := 3, ground := Ground.data }, { on := 2, ground := Ground.chain }], guard := none }) (by kernel_rfl) rfl (by rfl) fun K hK => ?_
  go_simp
  refine (fadd_any _ _ x5_2 c hx5_2 hc rfl rfl _).mono ?_
  rintro e w5_4 ⟨x5_4, rfl, hx5_4, vx5_4, bx5_4⟩
  replace hB := stepB hB bx5_4
  refine hK.out _ _ hB ?_
  clear hK K
  try simp only [Act.put, List.setIfInBounds_toArray, List.set_cons_zero, List.set_cons_succ]
  refine wpB_do (i := 8) (o := { dst := some 40, op := Op.call { callee := Callee.value (Operand.func 9), args := #[Operand.tmp 38, Operand.tmp 39], argTypes := #[26, 26] }, type := 26, pos := "law.go:100", after := #[{ on := 6, ground := Ground.data }, { on := 7, ground := Ground.data }, { on := 4, ground := Ground.chain }], guard := none }) (by kernel_rfl) rfl (by rfl) fun K hK => ?_
  go_simp
  refine (fadd_any _ _ b c hb hc rfl rfl _).mono ?_
  rintro e w5_8 ⟨x5_8, rfl, hx5_8, vx5_8, bx5_8⟩
  replace hB := stepB hB bx5_8
  refine hK.out _ _ hB ?_
  clear hK K
  try simp only [Act.put, List.setIfInBounds_toArray, List.set_cons_zero, List.set_cons_succ]
  refine wpB_do (i := 9) (o := { dst := some 41, op := Op.call { callee := Callee.value (Operand.func 9), args := #[Operand.tmp 37, Operand.tmp 40], argTypes := #[26, 26] }, type := 26, pos := "law.go:100", after := #[{ on := 5, ground := Ground.data }, { on := 8, ground := Ground.data }, { on := 8, ground := Ground.chain }], guard := none }) (by kernel_rfl) rfl (by rfl) fun K hK => ?_
  go_simp
  refine (fadd_any _ _ a x5_8 ha hx5_8 rfl rfl _).mono ?_
  rintro e w5_9 ⟨x5_9, rfl, hx5_9, vx5_9, bx5_9⟩
  replace hB := stepB hB bx5_9
  refine hK.out _ _ hB ?_
  clear hK K
  try simp only [Act.put, List.setIfInBounds_toArray, List.set_cons_zero, List.set_cons_succ]
  refine wpB_do (i := 10) (o := { dst := some 42, op := Op.call { callee := Callee.value (Operand.func 8), args := #[Operand.tmp 36, Operand.tmp 41], argTypes := #[26, 26] }, type := 4, pos := "law.go:100", after := #[{ on := 4, ground := Ground.data }, { on := 9, ground := Ground.data }, { on := 9, ground := Ground.chain }], guard := none }) (by kernel_rfl) rfl (by rfl) fun K hK => ?_
  go_simp
  refine (fsame_true _ _ x5_4 x5_9 hx5_4 hx5_9 ((addm vx5_4 vx5_2 rfl).trans (Eq.trans (by rw [Nat.add_assoc]) (addm vx5_9 rfl vx5_8).symm)) rfl rfl _).mono ?_
  rintro e w5_10 ⟨rfl, bx5_10⟩
  replace hB := stepB hB bx5_10
  refine hK.out _ _ hB ?_
  clear hK K
  try simp only [Act.put, List.setIfInBounds_toArray, List.set_cons_zero, List.set_cons_succ]
  refine wpB_take (hb := hB) (i := 11) (oi := { dst := some 43, op := Op.move (Operand.tmp 42), type := 4, pos := "law.go:100", after := #[{ on := 10, ground := Ground.data }, { on := 10, ground := Ground.chain }], guard := none }) (v := ?_) rfl (by kernel_rfl) (by kernel_rfl) (by kernel_rfl) (by rfl) ?_ ?_
  rotate_left
  · intro W hW; first | (go_simp; done) | (go_simp; with_reducible rfl)
  try simp only [Act.put, List.setIfInBounds_toArray, List.set_cons_zero, List.set_cons_succ]
  refine wpB_take (hb := hB) (i := 12) (oi := { dst := some 44, op := Op.load 23 (Operand.tmp 3), type := 23, pos := "law.go:100", after := #[{ on := 11, ground := Ground.guard }], guard := some (11, true) }) (v := ?_) rfl (by kernel_rfl) (by kernel_rfl) (by kernel_rfl) (by rfl) ?_ ?_
  rotate_left
  · intro W hW; refine Eq.trans (exec_load_row' 23 _ (by rfl) (by rfl) ra hW _ Try.underlying23 rfl (arInfo ha)) ?_; with_reducible rfl
  try simp only [Act.put, List.setIfInBounds_toArray, List.set_cons_zero, List.set_cons_succ]
  refine wpB_take (hb := hB) (i := 13) (oi := { dst := some 45, op := Op.load 23 (Operand.tmp 4), type := 23, pos := "law.go:100", after := #[{ on := 11, ground := Ground.guard }], guard := some (11, true) }) (v := ?_) rfl (by kernel_rfl) (by kernel_rfl) (by kernel_rfl) (by rfl) ?_ ?_
  rotate_left
  · intro W hW; refine Eq.trans (exec_load_row' 23 _ (by rfl) (by rfl) rb hW _ Try.underlying23 rfl (arInfo hb)) ?_; with_reducible rfl
  try simp only [Act.put, List.setIfInBounds_toArray, List.set_cons_zero, List.set_cons_succ]
  refine wpB_take (hb := hB) (i := 15) (oi := { dst := some 47, op := Op.load 23 (Operand.tmp 5), type := 23, pos := "law.go:100", after := #[{ on := 11, ground := Ground.guard }], guard := some (11, true) }) (v := ?_) rfl (by kernel_rfl) (by kernel_rfl) (by kernel_rfl) (by rfl) ?_ ?_
  rotate_left
  · intro W hW; refine Eq.trans (exec_load_row' 23 _ (by rfl) (by rfl) rc hW _ Try.underlying23 rfl (arInfo hc)) ?_; with_reducible rfl
  try simp only [Act.put, List.setIfInBounds_toArray, List.set_cons_zero, List.set_cons_succ]
  refine wpB_take (hb := hB) (i := 17) (oi := { dst := some 49, op := Op.load 23 (Operand.tmp 3), type := 23, pos := "law.go:100", after := #[{ on := 11, ground := Ground.guard }], guard := some (11, true) }) (v := ?_) rfl (by kernel_rfl) (by kernel_rfl) (by kernel_rfl) (by rfl) ?_ ?_
  rotate_left
  · intro W hW; refine Eq.trans (exec_load_row' 23 _ (by rfl) (by rfl) ra hW _ Try.underlying23 rfl (arInfo ha)) ?_; with_reducible rfl
  try simp only [Act.put, List.setIfInBounds_toArray, List.set_cons_zero, List.set_cons_succ]
  refine wpB_take (hb := hB) (i := 18) (oi := { dst := some 50, op := Op.load 23 (Operand.tmp 4), type := 23, pos := "law.go:100", after := #[{ on := 11, ground := Ground.guard }], guard := some (11, true) }) (v := ?_) rfl (by kernel_rfl) (by kernel_rfl) (by kernel_rfl) (by rfl) ?_ ?_
  rotate_left
  · intro W hW; refine Eq.trans (exec_load_row' 23 _ (by rfl) (by rfl) rb hW _ Try.underlying23 rfl (arInfo hb)) ?_; with_reducible rfl
  try simp only [Act.put, List.setIfInBounds_toArray, List.set_cons_zero, List.set_cons_succ]
  refine wpB_take (hb := hB) (i := 19) (oi := { dst := some 51, op := Op.load 23 (Operand.tmp 5), type := 23, pos := "law.go:100", after := #[{ on := 11, ground := Ground.guard }], guard := some (11, true) }) (v := ?_) rfl (by kernel_rfl) (by kernel_rfl) (by kernel_rfl) (by rfl) ?_ ?_
  rotate_left
  · intro W hW; refine Eq.trans (exec_load_row' 23 _ (by rfl) (by rfl) rc hW _ Try.underlying23 rfl (arInfo hc)) ?_; with_reducible rfl
  try simp only [Act.put, List.setIfInBounds_toArray, List.set_cons_zero, List.set_cons_succ]
  refine wpB_do (i := 14) (o := { dst := some 46, op := Op.call { callee := Callee.value (Operand.func 10), args := #[Operand.tmp 44, Operand.tmp 45], argTypes := #[26, 26] }, type := 26, pos := "law.go:100", after := #[{ on := 12, ground := Ground.data }, { on := 13, ground := Ground.data }, { on := 11, ground := Ground.chain }, { on := 11, ground := Ground.guard }], guard := some (11, true) }) (by kernel_rfl) rfl (by rfl) fun K hK => ?_
  go_simp
  refine (fmul_any _ _ a b ha hb rfl rfl _).mono ?_
  rintro e w5_14 ⟨x5_14, rfl, hx5_14, vx5_14, bx5_14⟩
  replace hB := stepB hB bx5_14
  refine hK.out _ _ hB ?_
  clear hK K
  try simp only [Act.put, List.setIfInBounds_toArray, List.set_cons_zero, List.set_cons_succ]
  refine wpB_do (i := 16) (o := { dst := some 48, op := Op.call { callee := Callee.value (Operand.func 10), args := #[Operand.tmp 46, Operand.tmp 47], argTypes := #[26, 26] }, type := 26, pos := "law.go:100", after := #[{ on := 14, ground := Ground.data }, { on := 15, ground := Ground.data }, { on := 14, ground := Ground.chain }, { on := 11, ground := Ground.guard }], guard := some (11, true) }) (by kernel_rfl) rfl (by rfl) fun K hK => ?_
  go_simp
  refine (fmul_any _ _ x5_14 c hx5_14 hc rfl rfl _).mono ?_
  rintro e w5_16 ⟨x5_16, rfl, hx5_16, vx5_16, bx5_16⟩
  replace hB := stepB hB bx5_16
  refine hK.out _ _ hB ?_
  clear hK K
  try simp only [Act.put, List.setIfInBounds_toArray, List.set_cons_zero, List.set_cons_succ]
  refine wpB_do (i := 20) (o := { dst := some 52, op := Op.call { callee := Callee.value (Operand.func 10), args := #[Operand.tmp 50, Operand.tmp 51], argTypes := #[26, 26] }, type := 26, pos := "law.go:100", after := #[{ on := 18, ground := Ground.data }, { on := 19, ground := Ground.data }, { on := 16, ground := Ground.chain }, { on := 11, ground := Ground.guard }], guard := some (11, true) }) (by kernel_rfl) rfl (by rfl) fun K hK => ?_
  go_simp
  refine (fmul_any _ _ b c hb hc rfl rfl _).mono ?_
  rintro e w5_20 ⟨x5_20, rfl, hx5_20, vx5_20, bx5_20⟩
  replace hB := stepB hB bx5_20
  refine hK.out _ _ hB ?_
  clear hK K
  try simp only [Act.put, List.setIfInBounds_toArray, List.set_cons_zero, List.set_cons_succ]
  refine wpB_do (i := 21) (o := { dst := some 53, op := Op.call { callee := Callee.value (Operand.func 10), args := #[Operand.tmp 49, Operand.tmp 52], argTypes := #[26, 26] }, type := 26, pos := "law.go:100", after := #[{ on := 17, ground := Ground.data }, { on := 20, ground := Ground.data }, { on := 20, ground := Ground.chain }, { on := 11, ground := Ground.guard }], guard := some (11, true) }) (by kernel_rfl) rfl (by rfl) fun K hK => ?_
  go_simp
  refine (fmul_any _ _ a x5_20 ha hx5_20 rfl rfl _).mono ?_
  rintro e w5_21 ⟨x5_21, rfl, hx5_21, vx5_21, bx5_21⟩
  replace hB := stepB hB bx5_21
  refine hK.out _ _ hB ?_
  clear hK K
  try simp only [Act.put, List.setIfInBounds_toArray, List.set_cons_zero, List.set_cons_succ]
  refine wpB_do (i := 22) (o := { dst := some 54, op := Op.call { callee := Callee.value (Operand.func 8), args := #[Operand.tmp 48, Operand.tmp 53], argTypes := #[26, 26] }, type := 4, pos := "law.go:100", after := #[{ on := 16, ground := Ground.data }, { on := 21, ground := Ground.data }, { on := 21, ground := Ground.chain }, { on := 11, ground := Ground.guard }], guard := some (11, true) }) (by kernel_rfl) rfl (by rfl) fun K hK => ?_
  go_simp
  refine (fsame_true _ _ x5_16 x5_21 hx5_16 hx5_21 ((mulm vx5_16 vx5_14 rfl).trans (Eq.trans (by rw [Nat.mul_assoc]) (mulm vx5_21 rfl vx5_20).symm)) rfl rfl _).mono ?_
  rintro e w5_22 ⟨rfl, bx5_22⟩
  replace hB := stepB hB bx5_22
  refine hK.out _ _ hB ?_
  clear hK K
  try simp only [Act.put, List.setIfInBounds_toArray, List.set_cons_zero, List.set_cons_succ]
  refine wpB_take (hb := hB) (i := 23) (oi := { dst := some 55, op := Op.pick (Operand.tmp 43) (Operand.tmp 54) (Operand.const (Value.bool false)), type := 4, pos := "law.go:100", after := #[{ on := 11, ground := Ground.data }, { on := 22, ground := Ground.data }], guard := none }) (v := ?_) rfl (by kernel_rfl) (by kernel_rfl) (by kernel_rfl) (by rfl) ?_ ?_
  rotate_left
  · intro W hW; first | (go_simp; done) | (go_simp; with_reducible rfl)
  try simp only [Act.put, List.setIfInBounds_toArray, List.set_cons_zero, List.set_cons_succ]
  refine wpB_take (hb := hB) (i := 24) (oi := { dst := some 9, op := Op.assign (Operand.tmp 55), type := 4, pos := "law.go:100", after := #[{ on := 23, ground := Ground.data }, { on := 22, ground := Ground.chain }, { on := 0, ground := Ground.phase }, { on := 1, ground := Ground.phase }, { on := 2, ground := Ground.phase }, { on := 3, ground := Ground.phase }, { on := 4, ground := Ground.phase }, { on := 5, ground := Ground.phase }, { on := 6, ground := Ground.phase }, { on := 7, ground := Ground.phase }, { on := 8, ground := Ground.phase }, { on := 9, ground := Ground.phase }, { on := 10, ground := Ground.phase }, { on := 11, ground := Ground.phase }, { on := 12, ground := Ground.phase }, { on := 13, ground := Ground.phase }, { on := 14, ground := Ground.phase }, { on := 15, ground := Ground.phase }, { on := 16, ground := Ground.phase }, { on := 17, ground := Ground.phase }, { on := 18, ground := Ground.phase }, { on := 19, ground := Ground.phase }, { on := 20, ground := Ground.phase }, { on := 21, ground := Ground.phase }, { on := 22, ground := Ground.phase }, { on := 23, ground := Ground.phase }], guard := none }) (v := ?_) rfl (by kernel_rfl) (by kernel_rfl) (by kernel_rfl) (by rfl) ?_ ?_
  rotate_left
  · intro W hW; first | (go_simp; done) | (go_simp; with_reducible rfl)
  try simp only [Act.put, List.setIfInBounds_toArray, List.set_cons_zero, List.set_cons_succ]
  refine wpB_done (by kernel_rfl) ?_
  replace ra := ra.kept hB
  replace rb := rb.kept hB
  replace rc := rc.kept hB
  replace hbw := stepB hbw hB
  clear hB
  clear hx5_2 vx5_2 bx5_2 hx5_4 vx5_4 bx5_4 hx5_8 vx5_8 bx5_8 hx5_9 vx5_9 bx5_9 bx5_10 hx5_14 vx5_14 bx5_14 hx5_16 vx5_16 bx5_16 hx5_20 vx5_20 bx5_20 hx5_21 vx5_21 bx5_21 bx5_22
  go_wp2_with fail
  have hB : Below w5_22.heap.size w5_22 w5_22.drew := (Below.refl _ _).drew
  refine wpB_begin (Below.refl w5_22.heap.size w5_22) (by kernel_rfl) ?_
  refine wpB_take (hb := hB) (i := 0) (oi := { dst := some 56, op := Op.load 23 (Operand.tmp 3), type := 23, pos := "law.go:101", after := #[], guard := none }) (v := ?_) rfl (by kernel_rfl) (by kernel_rfl) (by kernel_rfl) (by rfl) ?_ ?_
  rotate_left
  · intro W hW; refine Eq.trans (exec_load_row' 23 _ (by rfl) (by rfl) ra hW _ Try.underlying23 rfl (arInfo ha)) ?_; with_reducible rfl
  try simp only [Act.put, List.setIfInBounds_toArray, List.set_cons_zero, List.set_cons_succ]
  refine wpB_take (hb := hB) (i := 1) (oi := { dst := some 57, op := Op.load 23 (Operand.tmp 4), type := 23, pos := "law.go:101", after := #[], guard := none }) (v := ?_) rfl (by kernel_rfl) (by kernel_rfl) (by kernel_rfl) (by rfl) ?_ ?_
  rotate_left
  · intro W hW; refine Eq.trans (exec_load_row' 23 _ (by rfl) (by rfl) rb hW _ Try.underlying23 rfl (arInfo hb)) ?_; with_reducible rfl
  try simp only [Act.put, List.setIfInBounds_toArray, List.set_cons_zero, List.set_cons_succ]
  refine wpB_take (hb := hB) (i := 2) (oi := { dst := some 58, op := Op.load 23 (Operand.tmp 5), type := 23, pos := "law.go:101", after := #[], guard := none }) (v := ?_) rfl (by kernel_rfl) (by kernel_rfl) (by kernel_rfl) (by rfl) ?_ ?_
  rotate_left
  · intro W hW; refine Eq.trans (exec_load_row' 23 _ (by rfl) (by rfl) rc hW _ Try.underlying23 rfl (arInfo hc)) ?_; with_reducible rfl
  try simp only [Act.put, List.setIfInBounds_toArray, List.set_cons_zero, List.set_cons_succ]
  refine wpB_take (hb := hB) (i := 5) (oi := { dst := some 61, op := Op.load 23 (Operand.tmp 3), type := 23, pos := "law.go:101", after := #[], guard := none }) (v := ?_) rfl (by kernel_rfl) (by kernel_rfl) (by kernel_rfl) (by rfl) ?_ ?_
  rotate_left
  · intro W hW; refine Eq.trans (exec_load_row' 23 _ (by rfl) (by rfl) ra hW _ Try.underlying23 rfl (arInfo ha)) ?_; with_reducible rfl
  try simp only [Act.put, List.setIfInBounds_toArray, List.set_cons_zero, List.set_cons_succ]
  refine wpB_take (hb := hB) (i := 6) (oi := { dst := some 62, op := Op.load 23 (Operand.tmp 4), type := 23, pos := "law.go:101", after := #[], guard := none }) (v := ?_) rfl (by kernel_rfl) (by kernel_rfl) (by kernel_rfl) (by rfl) ?_ ?_
  rotate_left
  · intro W hW; refine Eq.trans (exec_load_row' 23 _ (by rfl) (by rfl) rb hW _ Try.underlying23 rfl (arInfo hb)) ?_; with_reducible rfl
  try simp only [Act.put, List.setIfInBounds_toArray, List.set_cons_zero, List.set_cons_succ]
  refine wpB_take (hb := hB) (i := 8) (oi := { dst := some 64, op := Op.load 23 (Operand.tmp 3), type := 23, pos := "law.go:101", after := #[], guard := none }) (v := ?_) rfl (by kernel_rfl) (by kernel_rfl) (by kernel_rfl) (by rfl) ?_ ?_
  rotate_left
  · intro W hW; refine Eq.trans (exec_load_row' 23 _ (by rfl) (by rfl) ra hW _ Try.underlying23 rfl (arInfo ha)) ?_; with_reducible rfl
  try simp only [Act.put, List.setIfInBounds_toArray, List.set_cons_zero, List.set_cons_succ]
  refine wpB_take (hb := hB) (i := 9) (oi := { dst := some 65, op := Op.load 23 (Operand.tmp 5), type := 23, pos := "law.go:101", after := #[], guard := none }) (v := ?_) rfl (by kernel_rfl) (by kernel_rfl) (by kernel_rfl) (by rfl) ?_ ?_
  rotate_left
  · intro W hW; refine Eq.trans (exec_load_row' 23 _ (by rfl) (by rfl) rc hW _ Try.underlying23 rfl (arInfo hc)) ?_; with_reducible rfl
  try simp only [Act.put, List.setIfInBounds_toArray, List.set_cons_zero, List.set_cons_succ]
  refine wpB_do (i := 3) (o := { dst := some 59, op := Op.call { callee := Callee.value (Operand.func 9), args := #[Operand.tmp 57, Operand.tmp 58], argTypes := #[26, 26] }, type := 26, pos := "law.go:101", after := #[{ on := 1, ground := Ground.data }, { on := 2, ground := Ground.data }], guard := none }) (by kernel_rfl) rfl (by rfl) fun K hK => ?_
  go_simp
  refine (fadd_any _ _ b c hb hc rfl rfl _).mono ?_
  rintro e w6_3 ⟨x6_3, rfl, hx6_3, vx6_3, bx6_3⟩
  replace hB := stepB hB bx6_3
  refine hK.out _ _ hB ?_
  clear hK K
  try simp only [Act.put, List.setIfInBounds_toArray, List.set_cons_zero, List.set_cons_succ]
  refine wpB_do (i := 4) (o := { dst := some 60, op := Op.call { callee := Callee.value (Operand.func 10), args := #[Operand.tmp 56, Operand.tmp 59], argTypes := #[26, 26] }, type := 26, pos := "law.go:101", after := #[{ on := 0, ground := Ground.data }, { on := 3, ground := Ground.data }, { on := 3, ground := Ground.chain }], guard := none }) (by kernel_rfl) rfl (by rfl) fun K hK => ?_
  go_simp
  refine (fmul_any _ _ a x6_3 ha hx6_3 rfl rfl _).mono ?_
  rintro e w6_4 ⟨x6_4, rfl, hx6_4, vx6_4, bx6_4⟩
  replace hB := stepB hB bx6_4
  refine hK.out _ _ hB ?_
  clear hK K
  try simp only [Act.put, List.setIfInBounds_toArray, List.set_cons_zero, List.set_cons_succ]
  refine wpB_do (i := 7) (o := { dst := some 63, op := Op.call { callee := Callee.value (Operand.func 10), args := #[Operand.tmp 61, Operand.tmp 62], argTypes := #[26, 26] }, type := 26, pos := "law.go:101", after := #[{ on := 5, ground := Ground.data }, { on := 6, ground := Ground.data }, { on := 4, ground := Ground.chain }], guard := none }) (by kernel_rfl) rfl (by rfl) fun K hK => ?_
  go_simp
  refine (fmul_any _ _ a b ha hb rfl rfl _).mono ?_
  rintro e w6_7 ⟨x6_7, rfl, hx6_7, vx6_7, bx6_7⟩
  replace hB := stepB hB bx6_7
  refine hK.out _ _ hB ?_
  clear hK K
  try simp only [Act.put, List.setIfInBounds_toArray, List.set_cons_zero, List.set_cons_succ]
  refine wpB_do (i := 10) (o := { dst := some 66, op := Op.call { callee := Callee.value (Operand.func 10), args := #[Operand.tmp 64, Operand.tmp 65], argTypes := #[26, 26] }, type := 26, pos := "law.go:101", after := #[{ on := 8, ground := Ground.data }, { on := 9, ground := Ground.data }, { on := 7, ground := Ground.chain }], guard := none }) (by kernel_rfl) rfl (by rfl) fun K hK => ?_
  go_simp
  refine (fmul_any _ _ a c ha hc rfl rfl _).mono ?_
  rintro e w6_10 ⟨x6_10, rfl, hx6_10, vx6_10, bx6_10⟩
  replace hB := stepB hB bx6_10
  refine hK.out _ _ hB ?_
  clear hK K
  try simp only [Act.put, List.setIfInBounds_toArray, List.set_cons_zero, List.set_cons_succ]
  refine wpB_do (i := 11) (o := { dst := some 67, op := Op.call { callee := Callee.value (Operand.func 9), args := #[Operand.tmp 63, Operand.tmp 66], argTypes := #[26, 26] }, type := 26, pos := "law.go:101", after := #[{ on := 7, ground := Ground.data }, { on := 10, ground := Ground.data }, { on := 10, ground := Ground.chain }], guard := none }) (by kernel_rfl) rfl (by rfl) fun K hK => ?_
  go_simp
  refine (fadd_any _ _ x6_7 x6_10 hx6_7 hx6_10 rfl rfl _).mono ?_
  rintro e w6_11 ⟨x6_11, rfl, hx6_11, vx6_11, bx6_11⟩
  replace hB := stepB hB bx6_11
  refine hK.out _ _ hB ?_
  clear hK K
  try simp only [Act.put, List.setIfInBounds_toArray, List.set_cons_zero, List.set_cons_succ]
  refine wpB_do (i := 12) (o := { dst := some 68, op := Op.call { callee := Callee.value (Operand.func 8), args := #[Operand.tmp 60, Operand.tmp 67], argTypes := #[26, 26] }, type := 4, pos := "law.go:101", after := #[{ on := 4, ground := Ground.data }, { on := 11, ground := Ground.data }, { on := 11, ground := Ground.chain }], guard := none }) (by kernel_rfl) rfl (by rfl) fun K hK => ?_
  go_simp
  refine (fsame_true _ _ x6_4 x6_11 hx6_4 hx6_11 ((mulm vx6_4 rfl vx6_3).trans ((law_dist _ _ _).trans (addm vx6_11 vx6_7 vx6_10).symm)) rfl rfl _).mono ?_
  rintro e w6_12 ⟨rfl, bx6_12⟩
  replace hB := stepB hB bx6_12
  refine hK.out _ _ hB ?_
  clear hK K
  try simp only [Act.put, List.setIfInBounds_toArray, List.set_cons_zero, List.set_cons_succ]
  refine wpB_take (hb := hB) (i := 13) (oi := { dst := some 10, op := Op.assign (Operand.tmp 68), type := 4, pos := "law.go:101", after := #[{ on := 12, ground := Ground.data }, { on := 12, ground := Ground.chain }, { on := 0, ground := Ground.phase }, { on := 1, ground := Ground.phase }, { on := 2, ground := Ground.phase }, { on := 3, ground := Ground.phase }, { on := 4, ground := Ground.phase }, { on := 5, ground := Ground.phase }, { on := 6, ground := Ground.phase }, { on := 7, ground := Ground.phase }, { on := 8, ground := Ground.phase }, { on := 9, ground := Ground.phase }, { on := 10, ground := Ground.phase }, { on := 11, ground := Ground.phase }, { on := 12, ground := Ground.phase }], guard := none }) (v := ?_) rfl (by kernel_rfl) (by kernel_rfl) (by kernel_rfl) (by rfl) ?_ ?_
  rotate_left
  · intro W hW; first | (go_simp; done) | (go_simp; with_reducible rfl)
  try simp only [Act.put, List.setIfInBounds_toArray, List.set_cons_zero, List.set_cons_succ]
  refine wpB_done (by kernel_rfl) ?_
  replace ra := ra.kept hB
  replace rb := rb.kept hB
  replace rc := rc.kept hB
  replace hbw := stepB hbw hB
  clear hB
  clear hx6_3 vx6_3 bx6_3 hx6_4 vx6_4 bx6_4 hx6_7 vx6_7 bx6_7 hx6_10 vx6_10 bx6_10 hx6_11 vx6_11 bx6_11 bx6_12
  go_wp2_with fail
  have hB : Below w6_12.heap.size w6_12 w6_12.drew := (Below.refl _ _).drew
  refine wpB_begin (Below.refl w6_12.heap.size w6_12) (by kernel_rfl) ?_
  refine wpB_take (hb := hB) (i := 0) (oi := { dst := some 69, op := Op.load 23 (Operand.tmp 3), type := 23, pos := "law.go:102", after := #[], guard := none }) (v := ?_) rfl (by kernel_rfl) (by kernel_rfl) (by kernel_rfl) (by rfl) ?_ ?_
  rotate_left
  · intro W hW; refine Eq.trans (exec_load_row' 23 _ (by rfl) (by rfl) ra hW _ Try.underlying23 rfl (arInfo ha)) ?_; with_reducible rfl
  try simp only [Act.put, List.setIfInBounds_toArray, List.set_cons_zero, List.set_cons_succ]
  refine wpB_take (hb := hB) (i := 1) (oi := { dst := some 70, op := Op.load 23 (Operand.tmp 4), type := 23, pos := "law.go:102", after := #[], guard := none }) (v := ?_) rfl (by kernel_rfl) (by kernel_rfl) (by kernel_rfl) (by rfl) ?_ ?_
  rotate_left
  · intro W hW; refine Eq.trans (exec_load_row' 23 _ (by rfl) (by rfl) rb hW _ Try.underlying23 rfl (arInfo hb)) ?_; with_reducible rfl
  try simp only [Act.put, List.setIfInBounds_toArray, List.set_cons_zero, List.set_cons_succ]
  refine wpB_take (hb := hB) (i := 3) (oi := { dst := some 72, op := Op.load 23 (Operand.tmp 4), type := 23, pos := "law.go:102", after := #[], guard := none }) (v := ?_) rfl (by kernel_rfl) (by kernel_rfl) (by kernel_rfl) (by rfl) ?_ ?_
  rotate_left
  · intro W hW; refine Eq.trans (exec_load_row' 23 _ (by rfl) (by rfl) rb hW _ Try.underlying23 rfl (arInfo hb)) ?_; with_reducible rfl
  try simp only [Act.put, List.setIfInBounds_toArray, List.set_cons_zero, List.set_cons_succ]
  refine wpB_take (hb := hB) (i := 5) (oi := { dst := some 74, op := Op.load 23 (Operand.tmp 3), type := 23, pos := "law.go:102", after := #[], guard := none }) (v := ?_) rfl (by kernel_rfl) (by kernel_rfl) (by kernel_rfl) (by rfl) ?_ ?_
  rotate_left
  · intro W hW; refine Eq.trans (exec_load_row' 23 _ (by rfl) (by rfl) ra hW _ Try.underlying23 rfl (arInfo ha)) ?_; with_reducible rfl
  try simp only [Act.put, List.setIfInBounds_toArray, List.set_cons_zero, List.set_cons_succ]
  refine wpB_do (i := 2) (o := { dst := some 71, op := Op.call { callee := Callee.value (Operand.func 11), args := #[Operand.tmp 69, Operand.tmp 70], argTypes := #[26, 26] }, type := 26, pos := "law.go:102", after := #[{ on := 0, ground := Ground.data }, { on := 1, ground := Ground.data }], guard := none }) (by kernel_rfl) rfl (by rfl) fun K hK => ?_
  go_simp
  refine (fsub_any _ _ a b ha hb rfl rfl _).mono ?_
  rintro e w7_2 ⟨x7_2, rfl, hx7_2, vx7_2, bx7_2⟩
  replace hB := stepB hB bx7_2
  refine hK.out _ _ hB ?_
  clear hK K
  try simp only [Act.put, List.setIfInBounds_toArray, List.set_cons_zero, List.set_cons_succ]
  refine wpB_do (i := 4) (o := { dst := some 73, op := Op.call { callee := Callee.value (Operand.func 9), args := #[Operand.tmp 71, Operand.tmp 72], argTypes := #[26, 26] }, type := 26, pos := "law.go:102", after := #[{ on := 2, ground := Ground.data }, { on := 3, ground := Ground.data }, { on := 2, ground := Ground.chain }], guard := none }) (by kernel_rfl) rfl (by rfl) fun K hK => ?_
  go_simp
  refine (fadd_any _ _ x7_2 b hx7_2 hb rfl rfl _).mono ?_
  rintro e w7_4 ⟨x7_4, rfl, hx7_4, vx7_4, bx7_4⟩
  replace hB := stepB hB bx7_4
  refine hK.out _ _ hB ?_
  clear hK K
  try simp only [Act.put, List.setIfInBounds_toArray, List.set_cons_zero, List.set_cons_succ]
  refine wpB_do (i := 6) (o := { dst := some 75, op := Op.call { callee := Callee.value (Operand.func 8), args := #[Operand.tmp 73, Operand.tmp 74], argTypes := #[26, 26] }, type := 4, pos := "law.go:102", after := #[{ on := 4, ground := Ground.data }, { on := 5, ground := Ground.data }, { on := 4, ground := Ground.chain }], guard := none }) (by kernel_rfl) rfl (by rfl) fun K hK => ?_
  go_simp
  refine (fsame_true _ _ x7_4 a hx7_4 ha (vx7_4.trans vx7_2) rfl rfl _).mono ?_
  rintro e w7_6 ⟨rfl, bx7_6⟩
  replace hB := stepB hB bx7_6
  refine hK.out _ _ hB ?_
  clear hK K
  try simp only [Act.put, List.setIfInBounds_toArray, List.set_cons_zero, List.set_cons_succ]
  refine wpB_take (hb := hB) (i := 7) (oi := { dst := some 76, op := Op.move (Operand.tmp 75), type := 4, pos := "law.go:102", after := #[{ on := 6, ground := Ground.data }, { on := 6, ground := Ground.chain }], guard := none }) (v := ?_) rfl (by kernel_rfl) (by kernel_rfl) (by kernel_rfl) (by rfl) ?_ ?_
  rotate_left
  · intro W hW; first | (go_simp; done) | (go_simp; with_reducible rfl)
  try simp only [Act.put, List.setIfInBounds_toArray, List.set_cons_zero, List.set_cons_succ]
  refine wpB_take (hb := hB) (i := 8) (oi := { dst := some 77, op := Op.load 23 (Operand.tmp 3), type := 23, pos := "law.go:102", after := #[{ on := 7, ground := Ground.guard }], guard := some (7, true) }) (v := ?_) rfl (by kernel_rfl) (by kernel_rfl) (by kernel_rfl) (by rfl) ?_ ?_
  rotate_left
  · intro W hW; refine Eq.trans (exec_load_row' 23 _ (by rfl) (by rfl) ra hW _ Try.underlying23 rfl (arInfo ha)) ?_; with_reducible rfl
  try simp only [Act.put, List.setIfInBounds_toArray, List.set_cons_zero, List.set_cons_succ]
  refine wpB_take (hb := hB) (i := 9) (oi := { dst := some 78, op := Op.load 23 (Operand.tmp 3), type := 23, pos := "law.go:102", after := #[{ on := 7, ground := Ground.guard }], guard := some (7, true) }) (v := ?_) rfl (by kernel_rfl) (by kernel_rfl) (by kernel_rfl) (by rfl) ?_ ?_
  rotate_left
  · intro W hW; refine Eq.trans (exec_load_row' 23 _ (by rfl) (by rfl) ra hW _ Try.underlying23 rfl (arInfo ha)) ?_; with_reducible rfl
  try simp only [Act.put, List.setIfInBounds_toArray, List.set_cons_zero, List.set_cons_succ]
  refine wpB_take (hb := hB) (i := 11) (oi := { dst := some 80, op := Op.build 26 #[], type := 26, pos := "law.go:102", after := #[{ on := 7, ground := Ground.guard }], guard := some (7, true) }) (v := ?_) rfl (by kernel_rfl) (by kernel_rfl) (by kernel_rfl) (by rfl) ?_ ?_
  rotate_left
  · intro W hW; first | (go_simp; done) | (go_simp; with_reducible rfl)
  try simp only [Act.put, List.setIfInBounds_toArray, List.set_cons_zero, List.set_cons_succ]
  refine wpB_do (i := 10) (o := { dst := some 79, op := Op.call { callee := Callee.value (Operand.func 11), args := #[Operand.tmp 77, Operand.tmp 78], argTypes := #[26, 26] }, type := 26, pos := "law.go:102", after := #[{ on := 8, ground := Ground.data }, { on := 9, ground := Ground.data }, { on := 7, ground := Ground.chain }, { on := 7, ground := Ground.guard }], guard := some (7, true) }) (by kernel_rfl) rfl (by rfl) fun K hK => ?_
  go_simp
  refine (fsub_any _ _ a a ha ha rfl rfl _).mono ?_
  rintro e w7_10 ⟨x7_10, rfl, hx7_10, vx7_10, bx7_10⟩
  replace hB := stepB hB bx7_10
  refine hK.out _ _ hB ?_
  clear hK K
  try simp only [Act.put, List.setIfInBounds_toArray, List.set_cons_zero, List.set_cons_succ]
  refine wpB_do (i := 12) (o := { dst := some 81, op := Op.call { callee := Callee.value (Operand.func 8), args := #[Operand.tmp 79, Operand.tmp 80], argTypes := #[26, 26] }, type := 4, pos := "law.go:102", after := #[{ on := 10, ground := Ground.data }, { on := 11, ground := Ground.data }, { on := 10, ground := Ground.chain }, { on := 7, ground := Ground.guard }], guard := some (7, true) }) (by kernel_rfl) rfl (by rfl) fun K hK => ?_
  go_simp
  refine (fsame_true _ _ x7_10 z4 hx7_10 z4_el (law_none vx7_10) rfl rfl _).mono ?_
  rintro e w7_12 ⟨rfl, bx7_12⟩
  replace hB := stepB hB bx7_12
  refine hK.out _ _ hB ?_
  clear hK K
  try simp only [Act.put, List.setIfInBounds_toArray, List.set_cons_zero, List.set_cons_succ]
  refine wpB_take (hb := hB) (i := 13) (oi := { dst := some 82, op := Op.pick (Operand.tmp 76) (Operand.tmp 81) (Operand.const (Value.bool false)), type := 4, pos := "law.go:102", after := #[{ on := 7, ground := Ground.data }, { on := 12, ground := Ground.data }], guard := none }) (v := ?_) rfl (by kernel_rfl) (by kernel_rfl) (by kernel_rfl) (by rfl) ?_ ?_
  rotate_left
  · intro W hW; first | (go_simp; done) | (go_simp; with_reducible rfl)
  try simp only [Act.put, List.setIfInBounds_toArray, List.set_cons_zero, List.set_cons_succ]
  refine wpB_take (hb := hB) (i := 14) (oi := { dst := some 11, op := Op.assign (Operand.tmp 82), type := 4, pos := "law.go:102", after := #[{ on := 13, ground := Ground.data }, { on := 12, ground := Ground.chain }, { on := 0, ground := Ground.phase }, { on := 1, ground := Ground.phase }, { on := 2, ground := Ground.phase }, { on := 3, ground := Ground.phase }, { on := 4, ground := Ground.phase }, { on := 5, ground := Ground.phase }, { on := 6, ground := Ground.phase }, { on := 7, ground := Ground.phase }, { on := 8, ground := Ground.phase }, { on := 9, ground := Ground.phase }, { on := 10, ground := Ground.phase }, { on := 11, ground := Ground.phase }, { on := 12, ground := Ground.phase }, { on := 13, ground := Ground.phase }], guard := none }) (v := ?_) rfl (by kernel_rfl) (by kernel_rfl) (by kernel_rfl) (by rfl) ?_ ?_
  rotate_left
  · intro W hW; first | (go_simp; done) | (go_simp; with_reducible rfl)
  try simp only [Act.put, List.setIfInBounds_toArray, List.set_cons_zero, List.set_cons_succ]
  refine wpB_done (by kernel_rfl) ?_
  replace ra := ra.kept hB
  replace rb := rb.kept hB
  replace rc := rc.kept hB
  replace hbw := stepB hbw hB
  clear hB
  clear hx7_2 vx7_2 bx7_2 hx7_4 vx7_4 bx7_4 bx7_6 hx7_10 vx7_10 bx7_10 bx7_12
  go_wp2_with fail
  have hB : Below w7_12.heap.size w7_12 w7_12.drew := (Below.refl _ _).drew
  refine wpB_begin (Below.refl w7_12.heap.size w7_12) (by kernel_rfl) ?_
  refine wpB_take (hb := hB) (i := 0) (oi := { dst := some 83, op := Op.load 23 (Operand.tmp 3), type := 23, pos := "law.go:103", after := #[], guard := none }) (v := ?_) rfl (by kernel_rfl) (by kernel_rfl) (by kernel_rfl) (by rfl) ?_ ?_
  rotate_left
  · intro W hW; refine Eq.trans (exec_load_row' 23 _ (by rfl) (by rfl) ra hW _ Try.underlying23 rfl (arInfo ha)) ?_; with_reducible rfl
  try simp only [Act.put, List.setIfInBounds_toArray, List.set_cons_zero, List.set_cons_succ]
  refine wpB_take (hb := hB) (i := 3) (oi := { dst := some 86, op := Op.load 23 (Operand.tmp 3), type := 23, pos := "law.go:103", after := #[], guard := none }) (v := ?_) rfl (by kernel_rfl) (by kernel_rfl) (by kernel_rfl) (by rfl) ?_ ?_
  rotate_left
  · intro W hW; refine Eq.trans (exec_load_row' 23 _ (by rfl) (by rfl) ra hW _ Try.underlying23 rfl (arInfo ha)) ?_; with_reducible rfl
  try simp only [Act.put, List.setIfInBounds_toArray, List.set_cons_zero, List.set_cons_succ]
  refine wpB_do (i := 1) (o := { dst := some 84, op := Op.call { callee := Callee.value (Operand.func 13), args := #[Operand.tmp 83], argTypes := #[26] }, type := 29, pos := "law.go:103", after := #[{ on := 0, ground := Ground.data }], guard := none }) (by kernel_rfl) rfl (by rfl) fun K hK => ?_
  go_simp
  refine (fencode_any _ a ha rfl _).mono ?_
  rintro e w8_1 ⟨x8_1, rfl, Nx8_1⟩
  have bx8_1 := Nx8_1.2
  replace hB := stepB hB bx8_1
  refine hK.out _ _ hB ?_
  clear hK K
  try simp only [Act.put, List.setIfInBounds_toArray, List.set_cons_zero, List.set_cons_succ]
  refine wpB_do (i := 2) (o := { dst := some 85, op := Op.call { callee := Callee.value (Operand.func 12), args := #[Operand.tmp 84], argTypes := #[29] }, type := 26, pos := "law.go:103", after := #[{ on := 1, ground := Ground.data }, { on := 1, ground := Ground.chain }], guard := none }) (by kernel_rfl) rfl (by rfl) fun K hK => ?_
  go_simp
  refine (fdecode_any _ _ _ Nx8_1.rd).mono ?_
  rintro e w8_2 ⟨x8_2, rfl, hx8_2, vx8_2, bx8_2⟩
  replace hB := stepB hB bx8_2
  refine hK.out _ _ hB ?_
  clear hK K
  try simp only [Act.put, List.setIfInBounds_toArray, List.set_cons_zero, List.set_cons_succ]
  refine wpB_do (i := 4) (o := { dst := some 87, op := Op.call { callee := Callee.value (Operand.func 8), args := #[Operand.tmp 85, Operand.tmp 86], argTypes := #[26, 26] }, type := 4, pos := "law.go:103", after := #[{ on := 2, ground := Ground.data }, { on := 3, ground := Ground.data }, { on := 2, ground := Ground.chain }], guard := none }) (by kernel_rfl) rfl (by rfl) fun K hK => ?_
  go_simp
  refine (fsame_true _ _ x8_2 a hx8_2 ha (by rw [vx8_2, decN_enL, Nat.mod_mod]) rfl rfl _).mono ?_
  rintro e w8_4 ⟨rfl, bx8_4⟩
  replace hB := stepB hB bx8_4
  refine hK.out _ _ hB ?_
  clear hK K
  try simp only [Act.put, List.setIfInBounds_toArray, List.set_cons_zero, List.set_cons_succ]
  refine wpB_take (hb := hB) (i := 5) (oi := { dst := some 12, op := Op.assign (Operand.tmp 87), type := 4, pos := "law.go:103", after := #[{ on := 4, ground := Ground.data }, { on := 4, ground := Ground.chain }, { on := 0, ground := Ground.phase }, { on := 1, ground := Ground.phase }, { on := 2, ground := Ground.phase }, { on := 3, ground := Ground.phase }, { on := 4, ground := Ground.phase }], guard := none }) (v := ?_) rfl (by kernel_rfl) (by kernel_rfl) (by kernel_rfl) (by rfl) ?_ ?_
  rotate_left
  · intro W hW; first | (go_simp; done) | (go_simp; with_reducible rfl)
  try simp only [Act.put, List.setIfInBounds_toArray, List.set_cons_zero, List.set_cons_succ]
  refine wpB_done (by kernel_rfl) ?_
  replace ra := ra.kept hB
  replace rb := rb.kept hB
  replace rc := rc.kept hB
  replace hbw := stepB hbw hB
  clear hB
  clear bx8_1 Nx8_1 hx8_2 vx8_2 bx8_2 bx8_4
  go_wp2
  go_ret
  exact ⟨rfl, hbw⟩
end Go.Proofs.Ytikkfmghjfddfab
