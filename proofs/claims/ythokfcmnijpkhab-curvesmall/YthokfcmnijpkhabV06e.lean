/- A step of the ladder, and what a fraction comes to: contracts of package curve, fifth part. -/
import Derived.Test.YthokfcmnijpkhabV06c
import Derived.Test.YthokfcmnijpkhabV06d
namespace Go.Proofs.Ythokfcmnijpkhab
open Go.ChangeShapes Go.WideShapes Go.ChangeAt Go.RowKit
set_option linter.unusedSimpArgs false
set_option linter.unusedVariables false

/-- Four words each that stand for what a ladder holds. -/
structure Lw (a b c d : List Nat) (l : Ld) : Prop where
  ea : El4 a
  eb : El4 b
  ec : El4 c
  ed : El4 d
  x : gv a = l.x
  z : gv b = l.z
  s : gv c = l.s
  t : gv d = l.t
theorem Lw.turn {a b c d : List Nat} {l : Ld} (h : Lw a b c d l) : Lw c d a b (ldT l) := ⟨h.ec, h.ed, h.ea, h.eb, h.s, h.t, h.x, h.z⟩

set_option maxRecDepth 100000 in
set_option maxHeartbeats 4000000 in
theorem next_any (P : Array Value) (a b c d : List Nat) (l : Ld) (h : Lw a b c d l) (hP : P = (prC a b c d).toArray) (U : Array Value) (u : List Nat) (hu : El4 u) (hU : U = (cE u).toArray) (w : World) :
    Calls Try.prog 18 #[.agg P, .agg U] w fun e w' => ∃ a' b' c' d' : List Nat, e = .returned (.agg (prC a' b' c' d').toArray) ∧ Lw a' b' c' d' (ldS (gv u) l) ∧ Below w.heap.size w w' := by
  obtain ⟨ha, hb, hc, hd, x1, x2, x3, x4⟩ := h
  go_enter Try.func18, Try.ntmps18
  go_wp2_with (refine wpList_box_blk rfl 43 _ rfl (prC a b c d) (by rw [← hP]; rfl) ?_)
  intro w1 r1 b1 s1
  go_wp2_with (refine wpList_box_blk rfl 33 _ rfl (cE u) (by rw [← hU]; rfl) ?_)
  intro w2 ru b2 s2
  go_wp2_with (refine wpList_alloc_blk rfl 43 rfl (prC z4 z4 z4 z4) (allocP _) ?_)
  intro w3 r2 b3 s3
  replace r1 := ((r1.kept b2).kept b3).drew
  replace ru := (ru.kept b3).drew
  replace r2 := r2.drew
  have hbw := (stepB (stepB b1 b2) b3).drew
  have n1 : w.heap.size < w1.heap.size := by have := s1.out; omega
  have n2 : w1.heap.size < w2.heap.size := by have := s2.out; omega
  clear b1 b2 b3 s1 s2 s3 hP hU
  go_wp2_with fail
  refine wpE_begin 7 (by kernel_rfl) ?_
  refine wpE_take (i := 0) (oi := { dst := some 5, op := Op.fieldAddr 43 (Operand.tmp 2) 0, type := 0, pos := "curve.go:71", after := #[], guard := none }) (v := ?_) rfl (by decide) (by kernel_rfl) (by kernel_rfl) (by kernel_rfl) (by kernel_rfl) (by rfl) ?_ ?_
  rotate_left
  · intro W hW; first | (go_simp; done) | (go_simp; with_reducible rfl)
  try simp only [Act.put, List.setIfInBounds_toArray, List.set_cons_zero, List.set_cons_succ]
  refine wpE_take (i := 1) (oi := { dst := some 6, op := Op.load 41 (Operand.tmp 5), type := 41, pos := "curve.go:71", after := #[{ on := 0, ground := Ground.data }], guard := none }) (v := ?_) rfl (by decide) (by kernel_rfl) (by kernel_rfl) (by kernel_rfl) (by kernel_rfl) (by rfl) ?_ ?_
  rotate_left
  · intro W hW; refine Eq.trans (exec_load_part 41 _ (by rfl) (by rfl) [] (frC a b) (frC c d) r1 hW (first1 _ _ _ _) rfl Try.underlying41 rfl (infF ha hb)) ?_; with_reducible rfl
  try simp only [Act.put, List.setIfInBounds_toArray, List.set_cons_zero, List.set_cons_succ]
  refine wpE_take (i := 3) (oi := { dst := some 8, op := Op.load 43 (Operand.tmp 2), type := 43, pos := "curve.go:71", after := #[], guard := none }) (v := ?_) rfl (by decide) (by kernel_rfl) (by kernel_rfl) (by kernel_rfl) (by kernel_rfl) (by rfl) ?_ ?_
  rotate_left
  · intro W hW; refine Eq.trans (exec_load_part 43 _ (by rfl) (by rfl) [] (prC a b c d) [] r1 hW (whole1 _) rfl Try.underlying43 rfl (infP ha hb hc hd)) ?_; with_reducible rfl
  try simp only [Act.put, List.setIfInBounds_toArray, List.set_cons_zero, List.set_cons_succ]
  refine wpE_take (i := 4) (oi := { dst := some 9, op := Op.load 33 (Operand.tmp 3), type := 33, pos := "curve.go:71", after := #[], guard := none }) (v := ?_) rfl (by decide) (by kernel_rfl) (by kernel_rfl) (by kernel_rfl) (by kernel_rfl) (by rfl) ?_ ?_
  rotate_left
  · intro W hW; refine Eq.trans (exec_load_part 33 _ (by rfl) (by rfl) [] (cE u) [] ru hW (whole1 _) rfl Try.underlying33 rfl (infE hu)) ?_; with_reducible rfl
  try simp only [Act.put, List.setIfInBounds_toArray, List.set_cons_zero, List.set_cons_succ]
  refine wpE_do (i := 2) (o := { dst := some 7, op := Op.call { callee := Callee.value (Operand.func 24), args := #[Operand.tmp 6], argTypes := #[41] }, type := 41, pos := "curve.go:71", after := #[{ on := 1, ground := Ground.data }], guard := none }) (by kernel_rfl) rfl (by rfl) fun K hK => ?_
  go_simp
  refine (doubled_any _ a b ha hb rfl _).mono ?_
  rintro e w4 ⟨x, z, rfl, hx, hz, vx, vz, b4⟩
  refine hK.out _ _ b4 ?_
  clear hK K
  replace r2 := r2.kept b4
  replace hbw := stepB hbw b4
  try simp only [Act.put, List.setIfInBounds_toArray, List.set_cons_zero, List.set_cons_succ]
  refine wpE_do (i := 5) (o := { dst := some 10, op := Op.call { callee := Callee.value (Operand.func 25), args := #[Operand.tmp 8, Operand.tmp 9], argTypes := #[43, 33] }, type := 41, pos := "curve.go:71", after := #[{ on := 3, ground := Ground.data }, { on := 4, ground := Ground.data }, { on := 2, ground := Ground.chain }], guard := none }) (by kernel_rfl) rfl (by rfl) fun K hK => ?_
  go_simp
  refine (sum_any _ a b c d ha hb hc hd rfl _ u hu rfl _).mono ?_
  rintro e w5 ⟨s, t, rfl, hs, ht, vs, vt, b5⟩
  refine hK.out _ _ b5 ?_
  clear hK K
  replace r2 := r2.kept b5
  replace hbw := stepB hbw b5
  try simp only [Act.put, List.setIfInBounds_toArray, List.set_cons_zero, List.set_cons_succ]
  refine wpE_take (i := 6) (oi := { dst := some 11, op := Op.build 43 #[(0, Operand.tmp 7), (1, Operand.tmp 10)], type := 43, pos := "curve.go:71", after := #[{ on := 2, ground := Ground.data }, { on := 5, ground := Ground.data }], guard := none }) (v := ?_) rfl (by decide) (by kernel_rfl) (by kernel_rfl) (by kernel_rfl) (by kernel_rfl) (by rfl) ?_ ?_
  rotate_left
  · intro W hW; refine Eq.trans (exec_build 43 _ rfl #[(0, .agg (frC x z).toArray), (1, .agg (frC s t).toArray)] (by go_simp; done) _ (buildP hx hz hs ht _)) ?_; with_reducible rfl
  try simp only [Act.put, List.setIfInBounds_toArray, List.set_cons_zero, List.set_cons_succ]
  refine wpE_last (o := { dst := none, op := Op.store 43 (Operand.tmp 4) (Operand.tmp 11), type := 0, pos := "curve.go:71", after := #[{ on := 6, ground := Ground.data }, { on := 5, ground := Ground.chain }, { on := 0, ground := Ground.phase }, { on := 1, ground := Ground.phase }, { on := 2, ground := Ground.phase }, { on := 3, ground := Ground.phase }, { on := 4, ground := Ground.phase }, { on := 5, ground := Ground.phase }, { on := 6, ground := Ground.phase }], guard := none }) (by kernel_rfl) (by kernel_rfl) rfl (by rfl) fun K hK => ?_
  refine wp_store_part 43 _ _ rfl rfl (prC x z s t) rfl [] (prC z4 z4 z4 z4) [] (prC x z s t) r2 (whole1 _) (whole1 _) rfl (by rw [prC_len hx hz hs ht, prC_len z4_el z4_el z4_el z4_el]) (infP z4_el z4_el z4_el z4_el) (prC_all _ _ _ _) ?_
  intro w6 r6 hw6
  refine hK.out _ _ ?_
  clear hK K
  try simp only [Act.put, List.setIfInBounds_toArray, List.set_cons_zero, List.set_cons_succ]
  go_wp2_with fail
  refine bodyPost_blk (p := 4) (ty := 43) rfl rfl rfl r6 Try.underlying43 rfl (infP hx hz hs ht) ?_
  refine ⟨x, z, s, t, rfl, ⟨hx, hz, hs, ht, ?_, ?_, ?_, ?_⟩, hw6.below _ _ (by omega) hbw⟩
  · rw [vx, x1, x2]
    rfl
  · rw [vz, x1, x2]
    rfl
  · rw [vs, x1, x2, x3, x4]
    rfl
  · rw [vt, x1, x2, x3, x4]
    rfl

set_option maxRecDepth 100000 in
set_option maxHeartbeats 4000000 in
theorem number_any (P : Array Value) (a b : List Nat) (ha : El4 a) (hb : El4 b) (hP : P = (frC a b).toArray) (w : World) :
    Calls Try.prog 19 #[.agg P] w fun e w' => ∃ r : List Nat, e = .returned (elV r) ∧ El4 r ∧ gv r = gv a * finv (gv b) ∧ Below w.heap.size w w' := by
  go_enter Try.func19, Try.ntmps19
  go_wp2_with (refine wpList_box_blk rfl 41 _ rfl (frC a b) (by rw [← hP]; rfl) ?_)
  intro w1 r1 b1 s1
  go_wp2_with (refine wpList_alloc_blk rfl 33 rfl (cE z4) (allocE _) ?_)
  intro w3 r2 b3 s3
  replace r1 := (r1.kept b3).drew
  replace r2 := r2.drew
  have hbw := (stepB b1 b3).drew
  have n1 : w.heap.size < w1.heap.size := by have := s1.out; omega
  clear b1 b3 s1 s3 hP
  go_wp2_with fail
  refine wpE_begin 6 (by kernel_rfl) ?_
  refine wpE_take (i := 0) (oi := { dst := some 3, op := Op.fieldAddr 41 (Operand.tmp 1) 0, type := 0, pos := "curve.go:49", after := #[], guard := none }) (v := ?_) rfl (by decide) (by kernel_rfl) (by kernel_rfl) (by kernel_rfl) (by kernel_rfl) (by rfl) ?_ ?_
  rotate_left
  · intro W hW; first | (go_simp; done) | (go_simp; with_reducible rfl)
  try simp only [Act.put, List.setIfInBounds_toArray, List.set_cons_zero, List.set_cons_succ]
  refine wpE_take (i := 1) (oi := { dst := some 4, op := Op.load 33 (Operand.tmp 3), type := 33, pos := "curve.go:49", after := #[{ on := 0, ground := Ground.data }], guard := none }) (v := ?_) rfl (by decide) (by kernel_rfl) (by kernel_rfl) (by kernel_rfl) (by kernel_rfl) (by rfl) ?_ ?_
  rotate_left
  · intro W hW; refine Eq.trans (exec_load_part 33 _ (by rfl) (by rfl) [] (cE a) (cE b) r1 hW (half1 _ _) rfl Try.underlying33 rfl (infE ha)) ?_; with_reducible rfl
  try simp only [Act.put, List.setIfInBounds_toArray, List.set_cons_zero, List.set_cons_succ]
  refine wpE_take (i := 2) (oi := { dst := some 5, op := Op.fieldAddr 41 (Operand.tmp 1) 1, type := 0, pos := "curve.go:49", after := #[], guard := none }) (v := ?_) rfl (by decide) (by kernel_rfl) (by kernel_rfl) (by kernel_rfl) (by kernel_rfl) (by rfl) ?_ ?_
  rotate_left
  · intro W hW; first | (go_simp; done) | (go_simp; with_reducible rfl)
  try simp only [Act.put, List.setIfInBounds_toArray, List.set_cons_zero, List.set_cons_succ]
  refine wpE_take (i := 3) (oi := { dst := some 6, op := Op.load 33 (Operand.tmp 5), type := 33, pos := "curve.go:49", after := #[{ on := 2, ground := Ground.data }], guard := none }) (v := ?_) rfl (by decide) (by kernel_rfl) (by kernel_rfl) (by kernel_rfl) (by kernel_rfl) (by rfl) ?_ ?_
  rotate_left
  · intro W hW; refine Eq.trans (exec_load_part 33 _ (by rfl) (by rfl) (cE a) (cE b) [] r1 hW (half2 _ _) (cE_len ha) Try.underlying33 rfl (infE hb)) ?_; with_reducible rfl
  try simp only [Act.put, List.setIfInBounds_toArray, List.set_cons_zero, List.set_cons_succ]
  refine wpE_do (i := 4) (o := { dst := some 7, op := Op.call { callee := Callee.value (Operand.func 27), args := #[Operand.tmp 6], argTypes := #[33] }, type := 33, pos := "curve.go:49", after := #[{ on := 3, ground := Ground.data }], guard := none }) (by kernel_rfl) rfl (by rfl) fun K hK => ?_
  go_simp
  refine (ginvert_any _ b hb rfl _).mono ?_
  rintro e w4 ⟨x, rfl, hx, vx, b4⟩
  refine hK.out _ _ b4 ?_
  clear hK K
  replace r2 := r2.kept b4
  replace hbw := stepB hbw b4
  try simp only [Act.put, List.setIfInBounds_toArray, List.set_cons_zero, List.set_cons_succ]
  refine wpE_do (i := 5) (o := { dst := some 8, op := Op.call { callee := Callee.value (Operand.func 26), args := #[Operand.tmp 4, Operand.tmp 7], argTypes := #[33, 33] }, type := 33, pos := "curve.go:49", after := #[{ on := 1, ground := Ground.data }, { on := 4, ground := Ground.data }, { on := 4, ground := Ground.chain }], guard := none }) (by kernel_rfl) rfl (by rfl) fun K hK => ?_
  go_simp
  refine (gmul_any _ _ a x ha hx rfl rfl _).mono ?_
  rintro e w5 ⟨r, rfl, hr, vr, b5⟩
  refine hK.out _ _ b5 ?_
  clear hK K
  replace r2 := r2.kept b5
  replace hbw := stepB hbw b5
  try simp only [Act.put, List.setIfInBounds_toArray, List.set_cons_zero, List.set_cons_succ]
  refine wpE_last (o := { dst := none, op := Op.store 33 (Operand.tmp 2) (Operand.tmp 8), type := 0, pos := "curve.go:49", after := #[{ on := 5, ground := Ground.data }, { on := 5, ground := Ground.chain }, { on := 0, ground := Ground.phase }, { on := 1, ground := Ground.phase }, { on := 2, ground := Ground.phase }, { on := 3, ground := Ground.phase }, { on := 4, ground := Ground.phase }, { on := 5, ground := Ground.phase }], guard := none }) (by kernel_rfl) (by kernel_rfl) rfl (by rfl) fun K hK => ?_
  refine wp_store_part 33 _ _ rfl rfl (cE r) rfl [] (cE z4) [] (cE r) r2 (whole1 _) (whole1 _) rfl (by rw [cE_len hr, cE_len z4_el]) (infE z4_el) (cE_all _) ?_
  intro w6 r6 hw6
  refine hK.out _ _ ?_
  clear hK K
  try simp only [Act.put, List.setIfInBounds_toArray, List.set_cons_zero, List.set_cons_succ]
  go_wp2_with fail
  refine bodyPost_blk (p := 2) (ty := 33) rfl rfl rfl r6 Try.underlying33 rfl (infE hr) ?_
  refine ⟨r, rfl, hr, ?_, hw6.below _ _ (by omega) hbw⟩
  rw [vr, vx]
end Go.Proofs.Ythokfcmnijpkhab
