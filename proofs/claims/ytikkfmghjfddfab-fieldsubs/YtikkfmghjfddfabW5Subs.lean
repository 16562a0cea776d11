/- What the law FieldSubs answers at every input: the walk. -/
import Derived.Test.YtikkfmghjfddfabF05j
namespace Go.Proofs.Ytikkfmghjfddfab
open Go.ChangeShapes Go.WideShapes Go.ChangeAt Go.RowKit
set_option linter.unusedSimpArgs false
set_option linter.unusedVariables false

theorem law_none {Z A : Nat} (h : (Z + A) % pN = A % pN) : Z % pN = wv z4 % pN := by
  rw [z4_wv]
  rw [pN_val] at h ⊢
  omega
theorem law_back {Y D A B : Nat} (h : Y % pN = (D + B) % pN) (h1 : (D + B) % pN = A % pN) : Y % pN = A % pN := h.trans h1
theorem law_neg {U V A B D : Nat} (h1 : (D + B) % pN = A % pN) (h2 : (U + A) % pN = B % pN) (h3 : (V + D) % pN = wv z4 % pN) : U % pN = V % pN := by
  rw [z4_wv] at h3
  rw [pN_val] at h1 h2 h3 ⊢
  omega

set_option maxRecDepth 100000 in
set_option maxHeartbeats 8000000 in
theorem subs_walk (Aa : Array Value) (a : List Nat) (ha : El4 a) (hAa : Aa = ((nI a).map (Value.int .u64)).toArray) (Ba : Array Value) (b : List Nat) (hb : El4 b) (hAb : Ba = ((nI b).map (Value.int .u64)).toArray) (w : World) :
    Calls Try.prog 4 #[.agg Aa, .agg Ba] w fun e w' => e = .returned (.bool true) ∧ Below w.heap.size w w' := by
  go_enter Try.func4, Try.ntmps4
  go_wp2_with (refine wpList_box_row (k := .u64) rfl 23 _ rfl (nI a) (by rw [← hAa]; rfl) ha.ne (elMax ha) ?_)
  intro w1 ra bn sn
  rw [ha.len] at ra
  clear sn
  have hbw := bn
  clear bn
  go_wp2_with (refine wpList_box_row (k := .u64) rfl 23 _ rfl (nI b) (by rw [← hAb]; rfl) hb.ne (elMax hb) ?_)
  intro w2 rb bn sn
  rw [hb.len] at rb
  clear sn
  replace ra := ra.kept bn
  replace hbw := stepB hbw bn
  clear bn
  go_wp2_with fail
  refine (awake_any _).mono ?_
  rintro e wa ⟨rfl, bn⟩
  replace ra := ra.kept bn
  replace rb := rb.kept bn
  replace hbw := stepB hbw bn
  clear bn
  go_wp2_with (first | refine wpList_load_row rfl 23 _ rfl rfl ra _ Try.underlying23 rfl (arInfo ha) ?_ | refine wpList_load_row rfl 23 _ rfl rfl rb _ Try.underlying23 rfl (arInfo hb) ?_)
  refine (fsub_any _ _ a b ha hb rfl rfl _).mono ?_
  rintro e wd ⟨xd, rfl, hxd, vxd, bn⟩
  replace ra := ra.kept bn
  replace rb := rb.kept bn
  replace hbw := stepB hbw bn
  clear bn
  go_wp2_with (refine wpList_alloc_row (k := .u64) rfl 26 rfl (nI z4) (alloc_el _) z4_el.ne (elMax z4_el) ?_)
  intro we rd bn sn
  rw [z4_el.len] at rd
  clear sn
  go_wp2_with (refine wpList_store_row rfl 26 _ _ rfl (nI xd) rfl rfl rd (by rw [z4_el.len, hxd.len]) (elInfo z4_el) ?_)
  intro wf rxd hwf
  replace bn : Below wd.heap.size wd wf := hwf.below _ _ (Nat.le_refl _) bn
  clear rd hwf
  replace ra := ra.kept bn
  replace rb := rb.kept bn
  replace hbw := stepB hbw bn
  clear bn
  go_wp2_with fail
  have hB : Below wf.heap.size wf wf.drew := (Below.refl _ _).drew
  refine wpB_begin (Below.refl wf.heap.size wf) (by kernel_rfl) ?_
  refine wpB_take (hb := hB) (i := 0) (oi := { dst := some 13, op := Op.load 26 (Operand.tmp 6), type := 26, pos := "law.go:114", after := #[], guard := none }) (v := ?_) rfl (by kernel_rfl) (by kernel_rfl) (by kernel_rfl) (by rfl) ?_ ?_
  rotate_left
  · intro W hW; refine Eq.trans (exec_load_row' 26 _ (by rfl) (by rfl) rxd hW _ Try.underlying26 rfl (elInfo hxd)) ?_; with_reducible rfl
  try simp only [Act.put, List.setIfInBounds_toArray, List.set_cons_zero, List.set_cons_succ]
  refine wpB_take (hb := hB) (i := 1) (oi := { dst := some 14, op := Op.load 23 (Operand.tmp 2), type := 23, pos := "law.go:114", after := #[], guard := none }) (v := ?_) rfl (by kernel_rfl) (by kernel_rfl) (by kernel_rfl) (by rfl) ?_ ?_
  rotate_left
  · intro W hW; refine Eq.trans (exec_load_row' 23 _ (by rfl) (by rfl) ra hW _ Try.underlying23 rfl (arInfo ha)) ?_; with_reducible rfl
  try simp only [Act.put, List.setIfInBounds_toArray, List.set_cons_zero, List.set_cons_succ]
  refine wpB_take (hb := hB) (i := 3) (oi := { dst := some 16, op := Op.load 23 (Operand.tmp 3), type := 23, pos := "law.go:114", after := #[], guard := none }) (v := ?_) rfl (by kernel_rfl) (by kernel_rfl) (by kernel_rfl) (by rfl) ?_ ?_
  rotate_left
  · intro W hW; refine Eq.trans (exec_load_row' 23 _ (by rfl) (by rfl) rb hW _ Try.underlying23 rfl (arInfo hb)) ?_; with_reducible rfl
  try simp only [Act.put, List.setIfInBounds_toArray, List.set_cons_zero, List.set_cons_succ]
  refine wpB_do (i := 2) (o := { dst := some 15, op := Op.call { callee := Callee.value (Operand.func 16), args := #[Operand.tmp 14], argTypes := #[23] }, type := 33, pos := "law.go:114", after := #[{ on := 1, ground := Ground.data }], guard := none }) (by kernel_rfl) rfl (by rfl) fun K hK => ?_
  go_simp
  refine (numR_any _ a ha.1 ha.2 rfl _).mono ?_
  rintro e w5_2 ⟨x5_2, rfl, Rx5_2, bx5_2⟩
  replace hB := stepB hB bx5_2
  refine hK.out _ _ hB ?_
  clear hK K
  try simp only [Act.put, List.setIfInBounds_toArray, List.set_cons_zero, List.set_cons_succ]
  refine wpB_do (i := 4) (o := { dst := some 17, op := Op.call { callee := Callee.value (Operand.func 16), args := #[Operand.tmp 16], argTypes := #[23] }, type := 33, pos := "law.go:114", after := #[{ on := 3, ground := Ground.data }, { on := 2, ground := Ground.chain }], guard := none }) (by kernel_rfl) rfl (by rfl) fun K hK => ?_
  go_simp
  refine (numR_any _ b hb.1 hb.2 rfl _).mono ?_
  rintro e w5_4 ⟨x5_4, rfl, Rx5_4, bx5_4⟩
  replace hB := stepB hB bx5_4
  replace Rx5_2 := Rx5_2.kept bx5_4
  refine hK.out _ _ hB ?_
  clear hK K
  try simp only [Act.put, List.setIfInBounds_toArray, List.set_cons_zero, List.set_cons_succ]
  refine wpB_do (i := 5) (o := { dst := some 18, op := Op.call { callee := Callee.value (Operand.func 15), args := #[Operand.tmp 15, Operand.tmp 17], argTypes := #[33, 33] }, type := 33, pos := "law.go:114", after := #[{ on := 2, ground := Ground.data }, { on := 4, ground := Ground.data }, { on := 4, ground := Ground.chain }], guard := none }) (by kernel_rfl) rfl (by rfl) fun K hK => ?_
  go_simp
  refine (subR_any _ _ _ _ _ Rx5_2 Rx5_4).mono ?_
  rintro e w5_5 ⟨x5_5, rfl, Rx5_5, bx5_5⟩
  replace hB := stepB hB bx5_5
  replace Rx5_2 := Rx5_2.kept bx5_5
  replace Rx5_4 := Rx5_4.kept bx5_5
  refine hK.out _ _ hB ?_
  clear hK K
  try simp only [Act.put, List.setIfInBounds_toArray, List.set_cons_zero, List.set_cons_succ]
  refine wpB_do (i := 6) (o := { dst := some 19, op := Op.call { callee := Callee.value (Operand.func 14), args := #[Operand.tmp 13, Operand.tmp 18], argTypes := #[26, 33] }, type := 4, pos := "law.go:114", after := #[{ on := 0, ground := Ground.data }, { on := 5, ground := Ground.data }, { on := 5, ground := Ground.chain }], guard := none }) (by kernel_rfl) rfl (by rfl) fun K hK => ?_
  go_simp
  refine (is_true _ xd _ _ hxd (sub_rest _ _ _ vxd) rfl _ Rx5_5).mono ?_
  rintro e w5_6 ⟨rfl, bx5_6⟩
  replace hB := stepB hB bx5_6
  replace Rx5_2 := Rx5_2.kept bx5_6
  replace Rx5_4 := Rx5_4.kept bx5_6
  refine hK.out _ _ hB ?_
  clear hK K
  try simp only [Act.put, List.setIfInBounds_toArray, List.set_cons_zero, List.set_cons_succ]
  refine wpB_take (hb := hB) (i := 7) (oi := { dst := some 20, op := Op.move (Operand.tmp 19), type := 4, pos := "law.go:114", after := #[{ on := 6, ground := Ground.data }, { on := 6, ground := Ground.chain }], guard := none }) (v := ?_) rfl (by kernel_rfl) (by kernel_rfl) (by kernel_rfl) (by rfl) ?_ ?_
  rotate_left
  · intro W hW; first | (go_simp; done) | (go_simp; with_reducible rfl)
  try simp only [Act.put, List.setIfInBounds_toArray, List.set_cons_zero, List.set_cons_succ]
  refine wpB_take (hb := hB) (i := 8) (oi := { dst := some 21, op := Op.load 26 (Operand.tmp 6), type := 26, pos := "law.go:114", after := #[{ on := 7, ground := Ground.guard }], guard := some (7, true) }) (v := ?_) rfl (by kernel_rfl) (by kernel_rfl) (by kernel_rfl) (by rfl) ?_ ?_
  rotate_left
  · intro W hW; refine Eq.trans (exec_load_row' 26 _ (by rfl) (by rfl) rxd hW _ Try.underlying26 rfl (elInfo hxd)) ?_; with_reducible rfl
  try simp only [Act.put, List.setIfInBounds_toArray, List.set_cons_zero, List.set_cons_succ]
  refine wpB_take (hb := hB) (i := 9) (oi := { dst := some 22, op := Op.load 23 (Operand.tmp 3), type := 23, pos := "law.go:114", after := #[{ on := 7, ground := Ground.guard }], guard := some (7, true) }) (v := ?_) rfl (by kernel_rfl) (by kernel_rfl) (by kernel_rfl) (by rfl) ?_ ?_
  rotate_left
  · intro W hW; refine Eq.trans (exec_load_row' 23 _ (by rfl) (by rfl) rb hW _ Try.underlying23 rfl (arInfo hb)) ?_; with_reducible rfl
  try simp only [Act.put, List.setIfInBounds_toArray, List.set_cons_zero, List.set_cons_succ]
  refine wpB_take (hb := hB) (i := 11) (oi := { dst := some 24, op := Op.load 23 (Operand.tmp 2), type := 23, pos := "law.go:114", after := #[{ on := 7, ground := Ground.guard }], guard := some (7, true) }) (v := ?_) rfl (by kernel_rfl) (by kernel_rfl) (by kernel_rfl) (by rfl) ?_ ?_
  rotate_left
  · intro W hW; refine Eq.trans (exec_load_row' 23 _ (by rfl) (by rfl) ra hW _ Try.underlying23 rfl (arInfo ha)) ?_; with_reducible rfl
  try simp only [Act.put, List.setIfInBounds_toArray, List.set_cons_zero, List.set_cons_succ]
  refine wpB_do (i := 10) (o := { dst := some 23, op := Op.call { callee := Callee.value (Operand.func 9), args := #[Operand.tmp 21, Operand.tmp 22], argTypes := #[26, 26] }, type := 26, pos := "law.go:114", after := #[{ on := 8, ground := Ground.data }, { on := 9, ground := Ground.data }, { on := 7, ground := Ground.chain }, { on := 7, ground := Ground.guard }], guard := some (7, true) }) (by kernel_rfl) rfl (by rfl) fun K hK => ?_
  go_simp
  refine (fadd_any _ _ xd b hxd hb rfl rfl _).mono ?_
  rintro e w5_10 ⟨x5_10, rfl, hx5_10, vx5_10, bx5_10⟩
  replace hB := stepB hB bx5_10
  replace Rx5_2 := Rx5_2.kept bx5_10
  replace Rx5_4 := Rx5_4.kept bx5_10
  refine hK.out _ _ hB ?_
  clear hK K
  try simp only [Act.put, List.setIfInBounds_toArray, List.set_cons_zero, List.set_cons_succ]
  refine wpB_do (i := 12) (o := { dst := some 25, op := Op.call { callee := Callee.value (Operand.func 8), args := #[Operand.tmp 23, Operand.tmp 24], argTypes := #[26, 26] }, type := 4, pos := "law.go:114", after := #[{ on := 10, ground := Ground.data }, { on := 11, ground := Ground.data }, { on := 10, ground := Ground.chain }, { on := 7, ground := Ground.guard }], guard := some (7, true) }) (by kernel_rfl) rfl (by rfl) fun K hK => ?_
  go_simp
  refine (fsame_true _ _ x5_10 a hx5_10 ha (law_back vx5_10 vxd) rfl rfl _).mono ?_
  rintro e w5_12 ⟨rfl, bx5_12⟩
  replace hB := stepB hB bx5_12
  replace Rx5_2 := Rx5_2.kept bx5_12
  replace Rx5_4 := Rx5_4.kept bx5_12
  refine hK.out _ _ hB ?_
  clear hK K
  try simp only [Act.put, List.setIfInBounds_toArray, List.set_cons_zero, List.set_cons_succ]
  refine wpB_take (hb := hB) (i := 13) (oi := { dst := some 26, op := Op.pick (Operand.tmp 20) (Operand.tmp 25) (Operand.const (Value.bool false)), type := 4, pos := "law.go:114", after := #[{ on := 7, ground := Ground.data }, { on := 12, ground := Ground.data }], guard := none }) (v := ?_) rfl (by kernel_rfl) (by kernel_rfl) (by kernel_rfl) (by rfl) ?_ ?_
  rotate_left
  · intro W hW; first | (go_simp; done) | (go_simp; with_reducible rfl)
  try simp only [Act.put, List.setIfInBounds_toArray, List.set_cons_zero, List.set_cons_succ]
  refine wpB_take (hb := hB) (i := 14) (oi := { dst := some 27, op := Op.move (Operand.tmp 26), type := 4, pos := "law.go:114", after := #[{ on := 13, ground := Ground.data }, { on := 12, ground := Ground.chain }], guard := none }) (v := ?_) rfl (by kernel_rfl) (by kernel_rfl) (by kernel_rfl) (by rfl) ?_ ?_
  rotate_left
  · intro W hW; first | (go_simp; done) | (go_simp; with_reducible rfl)
  try simp only [Act.put, List.setIfInBounds_toArray, List.set_cons_zero, List.set_cons_succ]
  refine wpB_take (hb := hB) (i := 15) (oi := { dst := some 28, op := Op.load 23 (Operand.tmp 2), type := 23, pos := "law.go:114", after := #[{ on := 14, ground := Ground.guard }], guard := some (14, true) }) (v := ?_) rfl (by kernel_rfl) (by kernel_rfl) (by kernel_rfl) (by rfl) ?_ ?_
  rotate_left
  · intro W hW; refine Eq.trans (exec_load_row' 23 _ (by rfl) (by rfl) ra hW _ Try.underlying23 rfl (arInfo ha)) ?_; with_reducible rfl
  try simp only [Act.put, List.setIfInBounds_toArray, List.set_cons_zero, List.set_cons_succ]
  refine wpB_take (hb := hB) (i := 16) (oi := { dst := some 29, op := Op.load 23 (Operand.tmp 2), type := 23, pos := "law.go:114", after := #[{ on := 14, ground := Ground.guard }], guard := some (14, true) }) (v := ?_) rfl (by kernel_rfl) (by kernel_rfl) (by kernel_rfl) (by rfl) ?_ ?_
  rotate_left
  · intro W hW; refine Eq.trans (exec_load_row' 23 _ (by rfl) (by rfl) ra hW _ Try.underlying23 rfl (arInfo ha)) ?_; with_reducible rfl
  try simp only [Act.put, List.setIfInBounds_toArray, List.set_cons_zero, List.set_cons_succ]
  refine wpB_take (hb := hB) (i := 18) (oi := { dst := some 31, op := Op.build 26 #[], type := 26, pos := "law.go:114", after := #[{ on := 14, ground := Ground.guard }], guard := some (14, true) }) (v := ?_) rfl (by kernel_rfl) (by kernel_rfl) (by kernel_rfl) (by rfl) ?_ ?_
  rotate_left
  · intro W hW; first | (go_simp; done) | (go_simp; with_reducible rfl)
  try simp only [Act.put, List.setIfInBounds_toArray, List.set_cons_zero, List.set_cons_succ]
  refine wpB_do (i := 17) (o := { dst := some 30, op := Op.call { callee := Callee.value (Operand.func 11), args := #[Operand.tmp 28, Operand.tmp 29], argTypes := #[26, 26] }, type := 26, pos := "law.go:114", after := #[{ on := 15, ground := Ground.data }, { on := 16, ground := Ground.data }, { on := 14, ground := Ground.chain }, { on := 14, ground := Ground.guard }], guard := some (14, true) }) (by kernel_rfl) rfl (by rfl) fun K hK => ?_
  go_simp
  refine (fsub_any _ _ a a ha ha rfl rfl _).mono ?_
  rintro e w5_17 ⟨x5_17, rfl, hx5_17, vx5_17, bx5_17⟩
  replace hB := stepB hB bx5_17
  replace Rx5_2 := Rx5_2.kept bx5_17
  replace Rx5_4 := Rx5_4.kept bx5_17
  refine hK.out _ _ hB ?_
  clear hK K
  try simp only [Act.put, List.setIfInBounds_toArray, List.set_cons_zero, List.set_cons_succ]
  refine wpB_do (i := 19) (o := { dst := some 32, op := Op.call { callee := Callee.value (Operand.func 8), args := #[Operand.tmp 30, Operand.tmp 31], argTypes := #[26, 26] }, type := 4, pos := "law.go:114", after := #[{ on := 17, ground := Ground.data }, { on := 18, ground := Ground.data }, { on := 17, ground := Ground.chain }, { on := 14, ground := Ground.guard }], guard := some (14, true) }) (by kernel_rfl) rfl (by rfl) fun K hK => ?_
  go_simp
  refine (fsame_true _ _ x5_17 z4 hx5_17 z4_el (law_none vx5_17) rfl rfl _).mono ?_
  rintro e w5_19 ⟨rfl, bx5_19⟩
  replace hB := stepB hB bx5_19
  replace Rx5_2 := Rx5_2.kept bx5_19
  replace Rx5_4 := Rx5_4.kept bx5_19
  refine hK.out _ _ hB ?_
  clear hK K
  try simp only [Act.put, List.setIfInBounds_toArray, List.set_cons_zero, List.set_cons_succ]
  refine wpB_take (hb := hB) (i := 20) (oi := { dst := some 33, op := Op.pick (Operand.tmp 27) (Operand.tmp 32) (Operand.const (Value.bool false)), type := 4, pos := "law.go:114", after := #[{ on := 14, ground := Ground.data }, { on := 19, ground := Ground.data }], guard := none }) (v := ?_) rfl (by kernel_rfl) (by kernel_rfl) (by kernel_rfl) (by rfl) ?_ ?_
  rotate_left
  · intro W hW; first | (go_simp; done) | (go_simp; with_reducible rfl)
  try simp only [Act.put, List.setIfInBounds_toArray, List.set_cons_zero, List.set_cons_succ]
  refine wpB_take (hb := hB) (i := 21) (oi := { dst := some 34, op := Op.move (Operand.tmp 33), type := 4, pos := "law.go:114", after := #[{ on := 20, ground := Ground.data }, { on := 19, ground := Ground.chain }], guard := none }) (v := ?_) rfl (by kernel_rfl) (by kernel_rfl) (by kernel_rfl) (by rfl) ?_ ?_
  rotate_left
  · intro W hW; first | (go_simp; done) | (go_simp; with_reducible rfl)
  try simp only [Act.put, List.setIfInBounds_toArray, List.set_cons_zero, List.set_cons_succ]
  refine wpB_take (hb := hB) (i := 22) (oi := { dst := some 35, op := Op.load 23 (Operand.tmp 3), type := 23, pos := "law.go:114", after := #[{ on := 21, ground := Ground.guard }], guard := some (21, true) }) (v := ?_) rfl (by kernel_rfl) (by kernel_rfl) (by kernel_rfl) (by rfl) ?_ ?_
  rotate_left
  · intro W hW; refine Eq.trans (exec_load_row' 23 _ (by rfl) (by rfl) rb hW _ Try.underlying23 rfl (arInfo hb)) ?_; with_reducible rfl
  try simp only [Act.put, List.setIfInBounds_toArray, List.set_cons_zero, List.set_cons_succ]
  refine wpB_take (hb := hB) (i := 23) (oi := { dst := some 36, op := Op.load 23 (Operand.tmp 2), type := 23, pos := "law.go:114", after := #[{ on := 21, ground := Ground.guard }], guard := some (21, true) }) (v := ?_) rfl (by kernel_rfl) (by kernel_rfl) (by kernel_rfl) (by rfl) ?_ ?_
  rotate_left
  · intro W hW; refine Eq.trans (exec_load_row' 23 _ (by rfl) (by rfl) ra hW _ Try.underlying23 rfl (arInfo ha)) ?_; with_reducible rfl
  try simp only [Act.put, List.setIfInBounds_toArray, List.set_cons_zero, List.set_cons_succ]
  refine wpB_take (hb := hB) (i := 25) (oi := { dst := some 38, op := Op.build 26 #[], type := 26, pos := "law.go:114", after := #[{ on := 21, ground := Ground.guard }], guard := some (21, true) }) (v := ?_) rfl (by kernel_rfl) (by kernel_rfl) (by kernel_rfl) (by rfl) ?_ ?_
  rotate_left
  · intro W hW; first | (go_simp; done) | (go_simp; with_reducible rfl)
  try simp only [Act.put, List.setIfInBounds_toArray, List.set_cons_zero, List.set_cons_succ]
  refine wpB_take (hb := hB) (i := 26) (oi := { dst := some 39, op := Op.load 26 (Operand.tmp 6), type := 26, pos := "law.go:114", after := #[{ on := 21, ground := Ground.guard }], guard := some (21, true) }) (v := ?_) rfl (by kernel_rfl) (by kernel_rfl) (by kernel_rfl) (by rfl) ?_ ?_
  rotate_left
  · intro W hW; refine Eq.trans (exec_load_row' 26 _ (by rfl) (by rfl) rxd hW _ Try.underlying26 rfl (elInfo hxd)) ?_; with_reducible rfl
  try simp only [Act.put, List.setIfInBounds_toArray, List.set_cons_zero, List.set_cons_succ]
  refine wpB_do (i := 24) (o := { dst := some 37, op := Op.call { callee := Callee.value (Operand.func 11), args := #[Operand.tmp 35, Operand.tmp 36], argTypes := #[26, 26] }, type := 26, pos := "law.go:114", after := #[{ on := 22, ground := Ground.data }, { on := 23, ground := Ground.data }, { on := 21, ground := Ground.chain }, { on := 21, ground := Ground.guard }], guard := some (21, true) }) (by kernel_rfl) rfl (by rfl) fun K hK => ?_
  go_simp
  refine (fsub_any _ _ b a hb ha rfl rfl _).mono ?_
  rintro e w5_24 ⟨x5_24, rfl, hx5_24, vx5_24, bx5_24⟩
  replace hB := stepB hB bx5_24
  replace Rx5_2 := Rx5_2.kept bx5_24
  replace Rx5_4 := Rx5_4.kept bx5_24
  refine hK.out _ _ hB ?_
  clear hK K
  try simp only [Act.put, List.setIfInBounds_toArray, List.set_cons_zero, List.set_cons_succ]
  refine wpB_do (i := 27) (o := { dst := some 40, op := Op.call { callee := Callee.value (Operand.func 11), args := #[Operand.tmp 38, Operand.tmp 39], argTypes := #[26, 26] }, type := 26, pos := "law.go:114", after := #[{ on := 25, ground := Ground.data }, { on := 26, ground := Ground.data }, { on := 24, ground := Ground.chain }, { on := 21, ground := Ground.guard }], guard := some (21, true) }) (by kernel_rfl) rfl (by rfl) fun K hK => ?_
  go_simp
  refine (fsub_any _ _ z4 xd z4_el hxd rfl rfl _).mono ?_
  rintro e w5_27 ⟨x5_27, rfl, hx5_27, vx5_27, bx5_27⟩
  replace hB := stepB hB bx5_27
  replace Rx5_2 := Rx5_2.kept bx5_27
  replace Rx5_4 := Rx5_4.kept bx5_27
  refine hK.out _ _ hB ?_
  clear hK K
  try simp only [Act.put, List.setIfInBounds_toArray, List.set_cons_zero, List.set_cons_succ]
  refine wpB_do (i := 28) (o := { dst := some 41, op := Op.call { callee := Callee.value (Operand.func 8), args := #[Operand.tmp 37, Operand.tmp 40], argTypes := #[26, 26] }, type := 4, pos := "law.go:114", after := #[{ on := 24, ground := Ground.data }, { on := 27, ground := Ground.data }, { on := 27, ground := Ground.chain }, { on := 21, ground := Ground.guard }], guard := some (21, true) }) (by kernel_rfl) rfl (by rfl) fun K hK => ?_
  go_simp
  refine (fsame_true _ _ x5_24 x5_27 hx5_24 hx5_27 (law_neg vxd vx5_24 vx5_27) rfl rfl _).mono ?_
  rintro e w5_28 ⟨rfl, bx5_28⟩
  replace hB := stepB hB bx5_28
  replace Rx5_2 := Rx5_2.kept bx5_28
  replace Rx5_4 := Rx5_4.kept bx5_28
  refine hK.out _ _ hB ?_
  clear hK K
  try simp only [Act.put, List.setIfInBounds_toArray, List.set_cons_zero, List.set_cons_succ]
  refine wpB_take (hb := hB) (i := 29) (oi := { dst := some 42, op := Op.pick (Operand.tmp 34) (Operand.tmp 41) (Operand.const (Value.bool false)), type := 4, pos := "law.go:114", after := #[{ on := 21, ground := Ground.data }, { on := 28, ground := Ground.data }], guard := none }) (v := ?_) rfl (by kernel_rfl) (by kernel_rfl) (by kernel_rfl) (by rfl) ?_ ?_
  rotate_left
  · intro W hW; first | (go_simp; done) | (go_simp; with_reducible rfl)
  try simp only [Act.put, List.setIfInBounds_toArray, List.set_cons_zero, List.set_cons_succ]
  refine wpB_take (hb := hB) (i := 30) (oi := { dst := some 4, op := Op.assign (Operand.tmp 42), type := 4, pos := "law.go:114", after := #[{ on := 29, ground := Ground.data }, { on := 28, ground := Ground.chain }, { on := 0, ground := Ground.phase }, { on := 1, ground := Ground.phase }, { on := 2, ground := Ground.phase }, { on := 3, ground := Ground.phase }, { on := 4, ground := Ground.phase }, { on := 5, ground := Ground.phase }, { on := 6, ground := Ground.phase }, { on := 7, ground := Ground.phase }, { on := 8, ground := Ground.phase }, { on := 9, ground := Ground.phase }, { on := 10, ground := Ground.phase }, { on := 11, ground := Ground.phase }, { on := 12, ground := Ground.phase }, { on := 13, ground := Ground.phase }, { on := 14, ground := Ground.phase }, { on := 15, ground := Ground.phase }, { on := 16, ground := Ground.phase }, { on := 17, ground := Ground.phase }, { on := 18, ground := Ground.phase }, { on := 19, ground := Ground.phase }, { on := 20, ground := Ground.phase }, { on := 21, ground := Ground.phase }, { on := 22, ground := Ground.phase }, { on := 23, ground := Ground.phase }, { on := 24, ground := Ground.phase }, { on := 25, ground := Ground.phase }, { on := 26, ground := Ground.phase }, { on := 27, ground := Ground.phase }, { on := 28, ground := Ground.phase }, { on := 29, ground := Ground.phase }], guard := none }) (v := ?_) rfl (by kernel_rfl) (by kernel_rfl) (by kernel_rfl) (by rfl) ?_ ?_
  rotate_left
  · intro W hW; first | (go_simp; done) | (go_simp; with_reducible rfl)
  try simp only [Act.put, List.setIfInBounds_toArray, List.set_cons_zero, List.set_cons_succ]
  refine wpB_done (by kernel_rfl) ?_
  replace ra := ra.kept hB
  replace rb := rb.kept hB
  replace rxd := rxd.kept hB
  replace hbw := stepB hbw hB
  clear hB
  clear bx5_2 Rx5_2 bx5_4 Rx5_4 bx5_5 Rx5_5 bx5_6 hx5_10 vx5_10 bx5_10 bx5_12 hx5_17 vx5_17 bx5_17 bx5_19 hx5_24 vx5_24 bx5_24 hx5_27 vx5_27 bx5_27 bx5_28
  go_wp2
  go_ret
  exact ⟨rfl, hbw⟩
end Go.Proofs.Ytikkfmghjfddfab
