/- What doubles a point: a contract of package curve, third part. -/
import Derived.Test.YthokfcmnijpkhabV06b
namespace Go.Proofs.Ythokfcmnijpkhab
open Go.ChangeShapes Go.WideShapes Go.ChangeAt Go.RowKit
set_option linter.unusedSimpArgs false
set_option linter.unusedVariables false

/-- Twice a point, as a fraction. -/
def dbX (x z : FF) : FF := (x + z) * (x + z) * ((x - z) * (x - z))
def dbZ (x z : FF) : FF := ((x + z) * (x + z) - (x - z) * (x - z)) * ((x + z) * (x + z) + 121665 * ((x + z) * (x + z) - (x - z) * (x - z)))

set_option maxRecDepth 100000 in
set_option maxHeartbeats 4000000 in
theorem doubled_any (P : Array Value) (o u : List Nat) (ho : El4 o) (hu : El4 u) (hP : P = (frC o u).toArray) (w : World) :
    Calls Try.prog 24 #[.agg P] w fun e w' => ∃ x z : List Nat, e = .returned (.agg (frC x z).toArray) ∧ El4 x ∧ El4 z ∧ gv x = dbX (gv o) (gv u) ∧ gv z = dbZ (gv o) (gv u) ∧ Below w.heap.size w w' := by
  go_enter Try.func24, Try.ntmps24
  go_wp2_with (refine wpList_box_blk rfl 41 _ rfl (frC o u) (by rw [← hP]; rfl) ?_)
  intro w1 r1 b1 s1
  go_wp2_with (refine wpList_alloc_blk rfl 41 rfl (frC z4 z4) (allocF _) ?_)
  intro w2 r2 b2 s2
  replace r1 := r1.kept b2
  have hbw := stepB b1 b2
  have n1 : w.heap.size < w1.heap.size := by have := s1.out; omega
  have n2 : w1.heap.size < w2.heap.size := by have := s2.out; omega
  clear b1 b2 s1 s2 hP
  go_wp2_with (first | refine wpList_load_part rfl 33 _ rfl rfl [] (cE o) (cE u) r1 (half1 _ _) rfl Try.underlying33 rfl (infE ho) ?_ | refine wpList_load_part rfl 33 _ rfl rfl (cE o) (cE u) [] r1 (half2 _ _) (cE_len ho) Try.underlying33 rfl (infE hu) ?_)
  refine (gadd_any _ _ o u ho hu rfl rfl _).mono ?_
  rintro e w3 ⟨x3, rfl, h3, v3, bn⟩
  replace r1 := r1.kept bn
  replace r2 := r2.kept bn
  replace hbw := stepB hbw bn
  clear bn
  go_wp2_with fail
  refine (gsquare_any _ x3 h3 rfl _).mono ?_
  rintro e w4 ⟨la, rfl, ha, va, bn⟩
  rw [v3] at va
  replace r1 := r1.kept bn
  replace r2 := r2.kept bn
  replace hbw := stepB hbw bn
  clear bn v3 h3
  have z4s := r2.lt
  go_wp2_with (refine wpList_alloc_blk rfl 33 rfl (cE z4) (allocE _) ?_)
  intro w5 r5 bn sn
  replace r1 := r1.kept bn
  replace r2 := r2.kept bn
  have hz := hbw.size
  replace hbw := stepB hbw bn
  clear bn sn
  go_wp2_with (refine wpList_store_part rfl 33 _ _ rfl rfl (cE la) rfl [] (cE z4) [] (cE la) r5 (whole1 _) (whole1 _) rfl (by rw [cE_len ha, cE_len z4_el]) (infE z4_el) (cE_all _) ?_)
  intro w6 ra hwn
  replace r1 := r1.wrote hwn (by omega)
  replace r2 := r2.wrote hwn (by omega)
  replace hbw := hwn.below _ _ (by omega) hbw
  clear r5 hwn hz
  go_wp2_with (first | refine wpList_load_part rfl 33 _ rfl rfl [] (cE o) (cE u) r1 (half1 _ _) rfl Try.underlying33 rfl (infE ho) ?_ | refine wpList_load_part rfl 33 _ rfl rfl (cE o) (cE u) [] r1 (half2 _ _) (cE_len ho) Try.underlying33 rfl (infE hu) ?_)
  refine (gsub_any _ _ o u ho hu rfl rfl _).mono ?_
  rintro e w7 ⟨x7, rfl, h7, v7, bn⟩
  replace r1 := r1.kept bn
  replace r2 := r2.kept bn
  replace ra := ra.kept bn
  replace hbw := stepB hbw bn
  clear bn
  go_wp2_with fail
  refine (gsquare_any _ x7 h7 rfl _).mono ?_
  rintro e w8 ⟨lb, rfl, hb, vb, bn⟩
  rw [v7] at vb
  replace r1 := r1.kept bn
  replace r2 := r2.kept bn
  replace ra := ra.kept bn
  replace hbw := stepB hbw bn
  clear bn v7 h7
  have z8 := ra.lt
  have z82 := r2.lt
  go_wp2_with (refine wpList_alloc_blk rfl 33 rfl (cE z4) (allocE _) ?_)
  intro w9 r9 bn sn
  replace r1 := r1.kept bn
  replace r2 := r2.kept bn
  replace ra := ra.kept bn
  have hz := hbw.size
  replace hbw := stepB hbw bn
  clear bn sn
  go_wp2_with (refine wpList_store_part rfl 33 _ _ rfl rfl (cE lb) rfl [] (cE z4) [] (cE lb) r9 (whole1 _) (whole1 _) rfl (by rw [cE_len hb, cE_len z4_el]) (infE z4_el) (cE_all _) ?_)
  intro w10 rb hwn
  replace r2 := r2.wrote hwn (by omega)
  replace ra := ra.wrote hwn (by omega)
  replace hbw := hwn.below _ _ (by omega) hbw
  clear r1 r9 hwn hz
  go_wp2_with (first | refine wpList_load_part rfl 33 _ rfl rfl [] (cE la) [] ra (whole1 _) rfl Try.underlying33 rfl (infE ha) ?_ | refine wpList_load_part rfl 33 _ rfl rfl [] (cE lb) [] rb (whole1 _) rfl Try.underlying33 rfl (infE hb) ?_)
  refine (gsub_any _ _ la lb ha hb rfl rfl _).mono ?_
  rintro e w11 ⟨le, rfl, he, ve, bn⟩
  replace r2 := r2.kept bn
  replace ra := ra.kept bn
  replace rb := rb.kept bn
  replace hbw := stepB hbw bn
  clear bn
  have y1 := ra.lt
  have y2 := r2.lt
  have y3 := rb.lt
  go_wp2_with (refine wpList_alloc_blk rfl 33 rfl (cE z4) (allocE _) ?_)
  intro w12 r12 bn sn
  replace r2 := r2.kept bn
  replace ra := ra.kept bn
  replace rb := rb.kept bn
  have hz := hbw.size
  replace hbw := stepB hbw bn
  clear bn sn
  go_wp2_with (refine wpList_store_part rfl 33 _ _ rfl rfl (cE le) rfl [] (cE z4) [] (cE le) r12 (whole1 _) (whole1 _) rfl (by rw [cE_len he, cE_len z4_el]) (infE z4_el) (cE_all _) ?_)
  intro w13 re hwn
  replace r2 := r2.wrote hwn (by omega)
  replace ra := ra.wrote hwn (by omega)
  replace rb := rb.wrote hwn (by omega)
  replace hbw := hwn.below _ _ (by omega) hbw
  clear r12 hwn hz
  replace r2 := r2.drew
  replace ra := ra.drew
  replace rb := rb.drew
  replace re := re.drew
  replace hbw := hbw.drew
  go_wp2_with fail
  refine wpE_begin 10 (by kernel_rfl) ?_
  refine wpE_take (i := 0) (oi := { dst := some 21, op := Op.load 33 (Operand.tmp 3), type := 33, pos := "curve.go:42", after := #[], guard := none }) (v := ?_) rfl (by decide) (by kernel_rfl) (by kernel_rfl) (by kernel_rfl) (by kernel_rfl) (by rfl) ?_ ?_
  rotate_left
  · intro W hW; refine Eq.trans (exec_load_part 33 _ (by rfl) (by rfl) [] (cE la) [] ra hW (whole1 _) rfl Try.underlying33 rfl (infE ha)) ?_; with_reducible rfl
  try simp only [Act.put, List.setIfInBounds_toArray, List.set_cons_zero, List.set_cons_succ]
  refine wpE_take (i := 1) (oi := { dst := some 22, op := Op.load 33 (Operand.tmp 4), type := 33, pos := "curve.go:42", after := #[], guard := none }) (v := ?_) rfl (by decide) (by kernel_rfl) (by kernel_rfl) (by kernel_rfl) (by kernel_rfl) (by rfl) ?_ ?_
  rotate_left
  · intro W hW; refine Eq.trans (exec_load_part 33 _ (by rfl) (by rfl) [] (cE lb) [] rb hW (whole1 _) rfl Try.underlying33 rfl (infE hb)) ?_; with_reducible rfl
  try simp only [Act.put, List.setIfInBounds_toArray, List.set_cons_zero, List.set_cons_succ]
  refine wpE_take (i := 3) (oi := { dst := some 24, op := Op.load 33 (Operand.tmp 5), type := 33, pos := "curve.go:42", after := #[], guard := none }) (v := ?_) rfl (by decide) (by kernel_rfl) (by kernel_rfl) (by kernel_rfl) (by kernel_rfl) (by rfl) ?_ ?_
  rotate_left
  · intro W hW; refine Eq.trans (exec_load_part 33 _ (by rfl) (by rfl) [] (cE le) [] re hW (whole1 _) rfl Try.underlying33 rfl (infE he)) ?_; with_reducible rfl
  try simp only [Act.put, List.setIfInBounds_toArray, List.set_cons_zero, List.set_cons_succ]
  refine wpE_take (i := 4) (oi := { dst := some 25, op := Op.load 33 (Operand.tmp 3), type := 33, pos := "curve.go:42", after := #[], guard := none }) (v := ?_) rfl (by decide) (by kernel_rfl) (by kernel_rfl) (by kernel_rfl) (by kernel_rfl) (by rfl) ?_ ?_
  rotate_left
  · intro W hW; refine Eq.trans (exec_load_part 33 _ (by rfl) (by rfl) [] (cE la) [] ra hW (whole1 _) rfl Try.underlying33 rfl (infE ha)) ?_; with_reducible rfl
  try simp only [Act.put, List.setIfInBounds_toArray, List.set_cons_zero, List.set_cons_succ]
  refine wpE_take (i := 5) (oi := { dst := some 26, op := Op.load 33 (Operand.tmp 5), type := 33, pos := "curve.go:42", after := #[], guard := none }) (v := ?_) rfl (by decide) (by kernel_rfl) (by kernel_rfl) (by kernel_rfl) (by kernel_rfl) (by rfl) ?_ ?_
  rotate_left
  · intro W hW; refine Eq.trans (exec_load_part 33 _ (by rfl) (by rfl) [] (cE le) [] re hW (whole1 _) rfl Try.underlying33 rfl (infE he)) ?_; with_reducible rfl
  try simp only [Act.put, List.setIfInBounds_toArray, List.set_cons_zero, List.set_cons_succ]
  refine wpE_do (i := 2) (o := { dst := some 23, op := Op.call { callee := Callee.value (Operand.func 26), args := #[Operand.tmp 21, Operand.tmp 22], argTypes := #[33, 33] }, type := 33, pos := "curve.go:43", after := #[{ on := 0, ground := Ground.data }, { on := 1, ground := Ground.data }], guard := none }) (by kernel_rfl) rfl (by rfl) fun K hK => ?_
  go_simp
  refine (gmul_any _ _ la lb ha hb rfl rfl _).mono ?_
  rintro e w14 ⟨x, rfl, hx, vx, b14⟩
  refine hK.out _ _ b14 ?_
  clear hK K
  replace r2 := r2.kept b14
  replace hbw := stepB hbw b14
  try simp only [Act.put, List.setIfInBounds_toArray, List.set_cons_zero, List.set_cons_succ]
  refine wpE_do (i := 6) (o := { dst := some 27, op := Op.call { callee := Callee.value (Operand.func 34), args := #[Operand.tmp 26, Operand.const (Value.int IntKind.u32 121665)], argTypes := #[33, 63] }, type := 33, pos := "curve.go:44", after := #[{ on := 5, ground := Ground.data }, { on := 2, ground := Ground.chain }], guard := none }) (by kernel_rfl) rfl (by rfl) fun K hK => ?_
  go_simp
  refine (gtimes_any _ le he rfl _).mono ?_
  rintro e w15 ⟨x15, rfl, h15, v15, b15⟩
  refine hK.out _ _ b15 ?_
  clear hK K
  replace r2 := r2.kept b15
  replace hbw := stepB hbw b15
  try simp only [Act.put, List.setIfInBounds_toArray, List.set_cons_zero, List.set_cons_succ]
  refine wpE_do (i := 7) (o := { dst := some 28, op := Op.call { callee := Callee.value (Operand.func 32), args := #[Operand.tmp 25, Operand.tmp 27], argTypes := #[33, 33] }, type := 33, pos := "curve.go:44", after := #[{ on := 4, ground := Ground.data }, { on := 6, ground := Ground.data }, { on := 6, ground := Ground.chain }], guard := none }) (by kernel_rfl) rfl (by rfl) fun K hK => ?_
  go_simp
  refine (gadd_any _ _ la x15 ha h15 rfl rfl _).mono ?_
  rintro e w16 ⟨x16, rfl, h16, v16, b16⟩
  refine hK.out _ _ b16 ?_
  clear hK K
  replace r2 := r2.kept b16
  replace hbw := stepB hbw b16
  try simp only [Act.put, List.setIfInBounds_toArray, List.set_cons_zero, List.set_cons_succ]
  refine wpE_do (i := 8) (o := { dst := some 29, op := Op.call { callee := Callee.value (Operand.func 26), args := #[Operand.tmp 24, Operand.tmp 28], argTypes := #[33, 33] }, type := 33, pos := "curve.go:44", after := #[{ on := 3, ground := Ground.data }, { on := 7, ground := Ground.data }, { on := 7, ground := Ground.chain }], guard := none }) (by kernel_rfl) rfl (by rfl) fun K hK => ?_
  go_simp
  refine (gmul_any _ _ le x16 he h16 rfl rfl _).mono ?_
  rintro e w17 ⟨z, rfl, hz, vz, b17⟩
  refine hK.out _ _ b17 ?_
  clear hK K
  replace r2 := r2.kept b17
  replace hbw := stepB hbw b17
  try simp only [Act.put, List.setIfInBounds_toArray, List.set_cons_zero, List.set_cons_succ]
  refine wpE_take (i := 9) (oi := { dst := some 30, op := Op.build 41 #[(0, Operand.tmp 23), (1, Operand.tmp 29)], type := 41, pos := "curve.go:42", after := #[{ on := 2, ground := Ground.data }, { on := 8, ground := Ground.data }], guard := none }) (v := ?_) rfl (by decide) (by kernel_rfl) (by kernel_rfl) (by kernel_rfl) (by kernel_rfl) (by rfl) ?_ ?_
  rotate_left
  · intro W hW; refine Eq.trans (exec_build 41 _ rfl #[(0, elV x), (1, elV z)] (by go_simp; done) _ (buildF hx hz _)) ?_; with_reducible rfl
  try simp only [Act.put, List.setIfInBounds_toArray, List.set_cons_zero, List.set_cons_succ]
  refine wpE_last (o := { dst := none, op := Op.store 41 (Operand.tmp 2) (Operand.tmp 30), type := 0, pos := "curve.go:42", after := #[{ on := 9, ground := Ground.data }, { on := 8, ground := Ground.chain }, { on := 0, ground := Ground.phase }, { on := 1, ground := Ground.phase }, { on := 2, ground := Ground.phase }, { on := 3, ground := Ground.phase }, { on := 4, ground := Ground.phase }, { on := 5, ground := Ground.phase }, { on := 6, ground := Ground.phase }, { on := 7, ground := Ground.phase }, { on := 8, ground := Ground.phase }, { on := 9, ground := Ground.phase }], guard := none }) (by kernel_rfl) (by kernel_rfl) rfl (by rfl) fun K hK => ?_
  refine wp_store_part 41 _ _ rfl rfl (frC x z) rfl [] (frC z4 z4) [] (frC x z) r2 (whole1 _) (whole1 _) rfl (by rw [frC_len hx hz, frC_len z4_el z4_el]) (infF z4_el z4_el) (frC_all _ _) ?_
  intro w18 r18 hw18
  refine hK.out _ _ ?_
  clear hK K
  try simp only [Act.put, List.setIfInBounds_toArray, List.set_cons_zero, List.set_cons_succ]
  go_wp2_with fail
  refine bodyPost_blk (p := 2) (ty := 41) rfl rfl rfl r18 Try.underlying41 rfl (infF hx hz) ?_
  refine ⟨x, z, rfl, hx, hz, ?_, ?_, hw18.below _ _ (by omega) hbw⟩
  · rw [vx, va, vb]
    rfl
  · rw [vz, v16, v15, ve, va, vb]
    rfl
end Go.Proofs.Ythokfcmnijpkhab
