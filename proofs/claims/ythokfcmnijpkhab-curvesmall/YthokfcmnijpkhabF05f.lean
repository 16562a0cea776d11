/- What inverts a number: a chain of powers: a contract of package field, sixth part. -/
import Derived.Test.YthokfcmnijpkhabF05e
namespace Go.Proofs.Ythokfcmnijpkhab
open Go.ChangeShapes Go.WideShapes Go.ChangeAt Go.RowKit
set_option linter.unusedSimpArgs false
set_option linter.unusedVariables false

theorem Pw.one (a : List Nat) : Pw (wv a) 1 a := by
  unfold Pw
  rw [Nat.pow_one]
theorem Pw.sq {x e : Nat} {l r : List Nat} (h1 : Pw x e l) (h : wv r % pN = wv l * wv l % pN) : Pw x (e + e) r := h1.mul h1 h
theorem Pw.exp {x e f : Nat} {l : List Nat} (h : Pw x e l) (hf : e = f) : Pw x f l := by
  subst hf
  exact h
theorem Pw.told {x y e : Nat} {l : List Nat} (h : Pw x e l) (hx : x = y) : wv l % pN = y ^ e % pN := by
  subst hx
  exact h
/-- 2^250 - 1, and the powers on the way. -/
def dn (n : Nat) : Nat := 2 ^ n - 1
theorem dn_add (a b : Nat) : dn a + dn b * 2 ^ a = dn (a + b) := by
  unfold dn
  have h1 : 0 < 2 ^ a := Nat.pow_pos (by decide)
  have h2 : 0 < 2 ^ b := Nat.pow_pos (by decide)
  rw [Nat.sub_mul, Nat.one_mul, ← Nat.pow_add, Nat.add_comm b a]
  have h3 : 2 ^ a ≤ 2 ^ (a + b) := Nat.pow_le_pow_right (by decide) (by omega)
  omega
theorem dn_inv : 11 + dn 250 * 2 ^ 5 = exN := inv_exp

set_option maxRecDepth 100000 in
set_option maxHeartbeats 8000000 in
theorem finvert_any (A : Array Value) (a : List Nat) (ha : El4 a) (hA : A = ((nI a).map (Value.int .u64)).toArray) (w : World) :
    Calls Try.prog 27 #[.agg A] w fun e w' => ∃ r : List Nat, e = .returned (elV r) ∧ El4 r ∧ wv r % pN = wv a ^ exN % pN ∧ Below w.heap.size w w' := by
  go_enter Try.func27, Try.ntmps27
  go_wp2_with (refine wpList_box_row (k := .u64) rfl 33 _ rfl (nI a) (by rw [← hA]; rfl) ha.ne (elMax ha) ?_)
  intro w1 r1 b1 s1
  rw [ha.len] at r1
  go_wp2_with (refine wpList_alloc_row (k := .u64) rfl 33 rfl (nI z4) (alloc_el _) z4_el.ne (elMax z4_el) ?_)
  intro w2 r2 b2 s2
  rw [z4_el.len] at r2
  replace r1 := r1.kept b2
  have hbw := stepB b1 b2
  have n1 : w.heap.size < w1.heap.size := by have := s1.out; omega
  have p1 : Pw (wv a) 1 a := Pw.one a
  have h1 := ha
  obtain ⟨X, hX⟩ : ∃ n : Nat, n = wv a := ⟨_, rfl⟩
  rw [← hX] at p1
  have HX : Hid _ := hX
  clear b1 b2 s1 s2 hA hX
  go_wp2_with (refine wpList_load_row rfl 33 _ rfl rfl r1 _ Try.underlying33 rfl (elInfo h1) ?_)
  refine (fsquare_any _ a h1 rfl _).mono ?_
  rintro e w3 ⟨l3, rfl, h3, he, b3⟩
  have p3 : Pw X (1 + 1) l3 := p1.sq he
  replace r1 := r1.kept b3
  replace r2 := r2.kept b3
  replace hbw := stepB hbw b3
  clear he b3
  go_wp2_with (refine wpList_alloc_row (k := .u64) rfl 33 rfl (nI z4) (alloc_el _) z4_el.ne (elMax z4_el) ?_)
  intro w4 r3 b4 s4
  rw [z4_el.len] at r3
  have hg1 := r1.lt
  have hg2 := r2.lt
  replace r1 := r1.kept b4
  replace r2 := r2.kept b4
  have hsz := hbw.size
  replace hbw := stepB hbw b4
  clear b4 s4
  go_wp2_with (refine wpList_store_row rfl 33 _ _ rfl (nI l3) rfl rfl r3 (by rw [z4_el.len, h3.len]) (elInfo z4_el) ?_)
  intro w5 r3' hw5
  replace r1 := r1.wrote hw5 (by omega)
  replace r2 := r2.wrote hw5 (by omega)
  replace hbw := hw5.below _ _ (by omega) hbw
  replace r3 := r3'
  clear r3' hw5
  go_upto_region 2 with fail
  go_cut [4] (fun v wx => ∃ (g : Nat) (l : List Nat), v = .pointer (some ⟨g, 0, none⟩) ∧ w5.heap.size ≤ g ∧ Hid (El4 l) ∧ Hid (Pw X (9) l) ∧ RowAt .u64 33 g 4 (nI l) wx ∧ Below w5.heap.size w5 wx)
  case first =>
    have hB : Below w5.heap.size w5 w5.drew := (Below.refl _ _).drew
    refine wpB_begin (Below.refl w5.heap.size w5) (by kernel_rfl) ?_
    refine wpB_take (hb := hB) (i := 0) (oi := { dst := some 16, op := Op.load 33 (Operand.tmp 1), type := 33, pos := "field.go:137", after := #[], guard := none }) (v := ?_) rfl (by kernel_rfl) (by kernel_rfl) (by kernel_rfl) (by rfl) ?_ ?_
    rotate_left
    · intro W hW; refine Eq.trans (exec_load_row' 33 _ (by rfl) (by rfl) r1 hW _ Try.underlying33 rfl (elInfo h1)) ?_; with_reducible rfl
    try simp only [Act.put, List.setIfInBounds_toArray, List.set_cons_zero, List.set_cons_succ]
    refine wpB_take (hb := hB) (i := 1) (oi := { dst := some 17, op := Op.load 33 (Operand.tmp 3), type := 33, pos := "field.go:137", after := #[], guard := none }) (v := ?_) rfl (by kernel_rfl) (by kernel_rfl) (by kernel_rfl) (by rfl) ?_ ?_
    rotate_left
    · intro W hW; refine Eq.trans (exec_load_row' 33 _ (by rfl) (by rfl) r3 hW _ Try.underlying33 rfl (elInfo h3)) ?_; with_reducible rfl
    try simp only [Act.put, List.setIfInBounds_toArray, List.set_cons_zero, List.set_cons_succ]
    refine wpB_fork (i := 2) (j := 4) (oi := { dst := some 18, op := Op.call { callee := Callee.value (Operand.func 36), args := #[Operand.tmp 17, Operand.const (Value.int IntKind.i64 2)], argTypes := #[33, 3] }, type := 33, pos := "field.go:137", after := #[{ on := 1, ground := Ground.data }], guard := none }) (oj := { dst := some 4, op := Op.alloc 33, type := 0, pos := "field.go:137", after := #[], guard := none }) (by kernel_rfl) rfl rfl (by rfl) (by rfl) (fun K hK => ?_) (fun K hK => ?_)
    · go_simp
      refine (squares_any _ l3 2 _ h3 (by decide) rfl rfl _).mono ?_
      rintro e wq ⟨lq, rfl, hq, heq, bq⟩
      have pq := p3.sqs (n := 2) heq
      replace hB := stepB hB bq
      try replace hG := hG.kept bq
      refine hK.out _ _ hB ?_
      clear hK K
      try simp only [Act.put, List.setIfInBounds_toArray, List.set_cons_zero, List.set_cons_succ]
      refine wpB_fork (i := 3) (j := 4) (oi := { dst := some 19, op := Op.call { callee := Callee.value (Operand.func 26), args := #[Operand.tmp 16, Operand.tmp 18], argTypes := #[33, 33] }, type := 33, pos := "field.go:137", after := #[{ on := 0, ground := Ground.data }, { on := 2, ground := Ground.data }, { on := 2, ground := Ground.chain }], guard := none }) (oj := { dst := some 4, op := Op.alloc 33, type := 0, pos := "field.go:137", after := #[], guard := none }) (by kernel_rfl) rfl rfl (by rfl) (by rfl) (fun K hK => ?_) (fun K hK => ?_)
      · go_simp
        refine (fmul_any _ _ a lq h1 hq rfl rfl _).mono ?_
        rintro e wm ⟨lm, rfl, hm, hem, bm⟩
        have pm := Pw.exp (p1.mul pq hem) rfl
        replace hB := stepB hB bm
        try replace hG := hG.kept bm
        refine hK.out _ _ hB ?_
        clear hK K
        try simp only [Act.put, List.setIfInBounds_toArray, List.set_cons_zero, List.set_cons_succ]
        refine wpB_do (i := 4) (o := { dst := some 4, op := Op.alloc 33, type := 0, pos := "field.go:137", after := #[], guard := none }) (by kernel_rfl) rfl (by rfl) fun K hK => ?_
        refine wp_alloc_el hB rfl ?_
        intro g wA hG hge hBA
        replace hB := hBA
        refine hK.out _ _ hB ?_
        clear hK K
        try simp only [Act.put, List.setIfInBounds_toArray, List.set_cons_zero, List.set_cons_succ]
        refine wpB_do (i := 5) (o := { dst := none, op := Op.store 33 (Operand.tmp 4) (Operand.tmp 19), type := 0, pos := "field.go:137", after := #[{ on := 4, ground := Ground.data }, { on := 3, ground := Ground.data }, { on := 3, ground := Ground.chain }, { on := 0, ground := Ground.phase }, { on := 1, ground := Ground.phase }, { on := 2, ground := Ground.phase }, { on := 3, ground := Ground.phase }, { on := 4, ground := Ground.phase }], guard := none }) (by kernel_rfl) rfl (by rfl) fun K hK => ?_
        refine wp_store_el (l := z4) (l2 := lm) hB hge _ _ rfl rfl rfl hG z4_el hm ?_
        intro wS hGS hBS
        replace hB := hBS
        refine hK.out _ _ hB ?_
        clear hK K
        try simp only [Act.put, List.setIfInBounds_toArray, List.set_cons_zero, List.set_cons_succ]
        refine wpB_done (by kernel_rfl) ?_
        go_wp2_with fail
        go_meet
        exact ⟨g, lm, rfl, hge, hm, pm, hGS, hB⟩
      · refine wp_alloc_el hB rfl ?_
        intro g wA hG hge hBA
        replace hB := hBA
        refine hK.out _ _ hB ?_
        clear hK K
        try simp only [Act.put, List.setIfInBounds_toArray, List.set_cons_zero, List.set_cons_succ]
        refine wpB_do (i := 3) (o := { dst := some 19, op := Op.call { callee := Callee.value (Operand.func 26), args := #[Operand.tmp 16, Operand.tmp 18], argTypes := #[33, 33] }, type := 33, pos := "field.go:137", after := #[{ on := 0, ground := Ground.data }, { on := 2, ground := Ground.data }, { on := 2, ground := Ground.chain }], guard := none }) (by kernel_rfl) rfl (by rfl) fun K hK => ?_
        go_simp
        refine (fmul_any _ _ a lq h1 hq rfl rfl _).mono ?_
        rintro e wm ⟨lm, rfl, hm, hem, bm⟩
        have pm := Pw.exp (p1.mul pq hem) rfl
        replace hB := stepB hB bm
        try replace hG := hG.kept bm
        refine hK.out _ _ hB ?_
        clear hK K
        try simp only [Act.put, List.setIfInBounds_toArray, List.set_cons_zero, List.set_cons_succ]
        refine wpB_do (i := 5) (o := { dst := none, op := Op.store 33 (Operand.tmp 4) (Operand.tmp 19), type := 0, pos := "field.go:137", after := #[{ on := 4, ground := Ground.data }, { on := 3, ground := Ground.data }, { on := 3, ground := Ground.chain }, { on := 0, ground := Ground.phase }, { on := 1, ground := Ground.phase }, { on := 2, ground := Ground.phase }, { on := 3, ground := Ground.phase }, { on := 4, ground := Ground.phase }], guard := none }) (by kernel_rfl) rfl (by rfl) fun K hK => ?_
        refine wp_store_el (l := z4) (l2 := lm) hB hge _ _ rfl rfl rfl hG z4_el hm ?_
        intro wS hGS hBS
        replace hB := hBS
        refine hK.out _ _ hB ?_
        clear hK K
        try simp only [Act.put, List.setIfInBounds_toArray, List.set_cons_zero, List.set_cons_succ]
        refine wpB_done (by kernel_rfl) ?_
        go_wp2_with fail
        go_meet
        exact ⟨g, lm, rfl, hge, hm, pm, hGS, hB⟩
    · refine wp_alloc_el hB rfl ?_
      intro g wA hG hge hBA
      replace hB := hBA
      refine hK.out _ _ hB ?_
      clear hK K
      try simp only [Act.put, List.setIfInBounds_toArray, List.set_cons_zero, List.set_cons_succ]
      refine wpB_do (i := 2) (o := { dst := some 18, op := Op.call { callee := Callee.value (Operand.func 36), args := #[Operand.tmp 17, Operand.const (Value.int IntKind.i64 2)], argTypes := #[33, 3] }, type := 33, pos := "field.go:137", after := #[{ on := 1, ground := Ground.data }], guard := none }) (by kernel_rfl) rfl (by rfl) fun K hK => ?_
      go_simp
      refine (squares_any _ l3 2 _ h3 (by decide) rfl rfl _).mono ?_
      rintro e wq ⟨lq, rfl, hq, heq, bq⟩
      have pq := p3.sqs (n := 2) heq
      replace hB := stepB hB bq
      try replace hG := hG.kept bq
      refine hK.out _ _ hB ?_
      clear hK K
      try simp only [Act.put, List.setIfInBounds_toArray, List.set_cons_zero, List.set_cons_succ]
      refine wpB_do (i := 3) (o := { dst := some 19, op := Op.call { callee := Callee.value (Operand.func 26), args := #[Operand.tmp 16, Operand.tmp 18], argTypes := #[33, 33] }, type := 33, pos := "field.go:137", after := #[{ on := 0, ground := Ground.data }, { on := 2, ground := Ground.data }, { on := 2, ground := Ground.chain }], guard := none }) (by kernel_rfl) rfl (by rfl) fun K hK => ?_
      go_simp
      refine (fmul_any _ _ a lq h1 hq rfl rfl _).mono ?_
      rintro e wm ⟨lm, rfl, hm, hem, bm⟩
      have pm := Pw.exp (p1.mul pq hem) rfl
      replace hB := stepB hB bm
      try replace hG := hG.kept bm
      refine hK.out _ _ hB ?_
      clear hK K
      try simp only [Act.put, List.setIfInBounds_toArray, List.set_cons_zero, List.set_cons_succ]
      refine wpB_do (i := 5) (o := { dst := none, op := Op.store 33 (Operand.tmp 4) (Operand.tmp 19), type := 0, pos := "field.go:137", after := #[{ on := 4, ground := Ground.data }, { on := 3, ground := Ground.data }, { on := 3, ground := Ground.chain }, { on := 0, ground := Ground.phase }, { on := 1, ground := Ground.phase }, { on := 2, ground := Ground.phase }, { on := 3, ground := Ground.phase }, { on := 4, ground := Ground.phase }], guard := none }) (by kernel_rfl) rfl (by rfl) fun K hK => ?_
      refine wp_store_el (l := z4) (l2 := lm) hB hge _ _ rfl rfl rfl hG z4_el hm ?_
      intro wS hGS hBS
      replace hB := hBS
      refine hK.out _ _ hB ?_
      clear hK K
      try simp only [Act.put, List.setIfInBounds_toArray, List.set_cons_zero, List.set_cons_succ]
      refine wpB_done (by kernel_rfl) ?_
      go_wp2_with fail
      go_meet
      exact ⟨g, lm, rfl, hge, hm, pm, hGS, hB⟩
  case rest =>
  obtain ⟨g4, l4, rfl, hge4, H4, P4, r4, bc4⟩ := hcut
  have h4 := H4.out
  have p4 := P4.out
  clear H4 P4
  replace r1 := r1.kept bc4
  replace r2 := r2.kept bc4
  replace r3 := r3.kept bc4
  replace hbw := stepB hbw bc4
  clear bc4
  rename World => W4
  go_wp2_with (first | refine wpList_load_row rfl 33 _ rfl rfl r4 _ Try.underlying33 rfl (elInfo h4) ?_ | refine wpList_load_row rfl 33 _ rfl rfl r3 _ Try.underlying33 rfl (elInfo h3) ?_)
  refine (fmul_any _ _ l4 l3 h4 h3 rfl rfl _).mono ?_
  rintro e w6 ⟨l5, rfl, h5, he, b6⟩
  have p5 : Pw X 11 l5 := Pw.exp (p4.mul p3 he) rfl
  replace r1 := r1.kept b6
  replace r2 := r2.kept b6
  replace r3 := r3.kept b6
  replace r4 := r4.kept b6
  replace hbw := stepB hbw b6
  clear he b6
  have hg1 := r1.lt
  have hg2 := r2.lt
  have hg3 := r3.lt
  have hg4 := r4.lt
  have hsz := hbw.size
  go_wp2_with (refine wpList_alloc_row (k := .u64) rfl 33 rfl (nI z4) (alloc_el _) z4_el.ne (elMax z4_el) ?_)
  intro w7 r5 b7 s7
  rw [z4_el.len] at r5
  replace r1 := r1.kept b7
  replace r2 := r2.kept b7
  replace r3 := r3.kept b7
  replace r4 := r4.kept b7
  replace hbw := stepB hbw b7
  clear b7 s7
  go_wp2_with (refine wpList_store_row rfl 33 _ _ rfl (nI l5) rfl rfl r5 (by rw [z4_el.len, h5.len]) (elInfo z4_el) ?_)
  intro w8 r5' hw8
  replace r1 := r1.wrote hw8 (by omega)
  replace r2 := r2.wrote hw8 (by omega)
  replace r3 := r3.wrote hw8 (by omega)
  replace r4 := r4.wrote hw8 (by omega)
  replace hbw := hw8.below _ _ (by omega) hbw
  replace r5 := r5'
  clear r5' hw8
  clear r1
  clear r3
  go_upto_region 4 with fail
  go_cut [6] (fun v wx => ∃ (g : Nat) (l : List Nat), v = .pointer (some ⟨g, 0, none⟩) ∧ w8.heap.size ≤ g ∧ Hid (El4 l) ∧ Hid (Pw X (dn 5) l) ∧ RowAt .u64 33 g 4 (nI l) wx ∧ Below w8.heap.size w8 wx)
  case first =>
    have hB : Below w8.heap.size w8 w8.drew := (Below.refl _ _).drew
    refine wpB_begin (Below.refl w8.heap.size w8) (by kernel_rfl) ?_
    refine wpB_take (hb := hB) (i := 0) (oi := { dst := some 23, op := Op.load 33 (Operand.tmp 4), type := 33, pos := "field.go:140", after := #[], guard := none }) (v := ?_) rfl (by kernel_rfl) (by kernel_rfl) (by kernel_rfl) (by rfl) ?_ ?_
    rotate_left
    · intro W hW; refine Eq.trans (exec_load_row' 33 _ (by rfl) (by rfl) r4 hW _ Try.underlying33 rfl (elInfo h4)) ?_; with_reducible rfl
    try simp only [Act.put, List.setIfInBounds_toArray, List.set_cons_zero, List.set_cons_succ]
    refine wpB_take (hb := hB) (i := 1) (oi := { dst := some 24, op := Op.load 33 (Operand.tmp 5), type := 33, pos := "field.go:140", after := #[], guard := none }) (v := ?_) rfl (by kernel_rfl) (by kernel_rfl) (by kernel_rfl) (by rfl) ?_ ?_
    rotate_left
    · intro W hW; refine Eq.trans (exec_load_row' 33 _ (by rfl) (by rfl) r5 hW _ Try.underlying33 rfl (elInfo h5)) ?_; with_reducible rfl
    try simp only [Act.put, List.setIfInBounds_toArray, List.set_cons_zero, List.set_cons_succ]
    refine wpB_fork (i := 2) (j := 4) (oi := { dst := some 25, op := Op.call { callee := Callee.value (Operand.func 31), args := #[Operand.tmp 24], argTypes := #[33] }, type := 33, pos := "field.go:140", after := #[{ on := 1, ground := Ground.data }], guard := none }) (oj := { dst := some 6, op := Op.alloc 33, type := 0, pos := "field.go:140", after := #[], guard := none }) (by kernel_rfl) rfl rfl (by rfl) (by rfl) (fun K hK => ?_) (fun K hK => ?_)
    · go_simp
      refine (fsquare_any _ l5 h5 rfl _).mono ?_
      rintro e wq ⟨lq, rfl, hq, heq, bq⟩
      have pq := p5.sq heq
      replace hB := stepB hB bq
      try replace hG := hG.kept bq
      refine hK.out _ _ hB ?_
      clear hK K
      try simp only [Act.put, List.setIfInBounds_toArray, List.set_cons_zero, List.set_cons_succ]
      refine wpB_fork (i := 3) (j := 4) (oi := { dst := some 26, op := Op.call { callee := Callee.value (Operand.func 26), args := #[Operand.tmp 23, Operand.tmp 25], argTypes := #[33, 33] }, type := 33, pos := "field.go:140", after := #[{ on := 0, ground := Ground.data }, { on := 2, ground := Ground.data }, { on := 2, ground := Ground.chain }], guard := none }) (oj := { dst := some 6, op := Op.alloc 33, type := 0, pos := "field.go:140", after := #[], guard := none }) (by kernel_rfl) rfl rfl (by rfl) (by rfl) (fun K hK => ?_) (fun K hK => ?_)
      · go_simp
        refine (fmul_any _ _ l4 lq h4 hq rfl rfl _).mono ?_
        rintro e wm ⟨lm, rfl, hm, hem, bm⟩
        have pm := Pw.exp (p4.mul pq hem) rfl
        replace hB := stepB hB bm
        try replace hG := hG.kept bm
        refine hK.out _ _ hB ?_
        clear hK K
        try simp only [Act.put, List.setIfInBounds_toArray, List.set_cons_zero, List.set_cons_succ]
        refine wpB_do (i := 4) (o := { dst := some 6, op := Op.alloc 33, type := 0, pos := "field.go:140", after := #[], guard := none }) (by kernel_rfl) rfl (by rfl) fun K hK => ?_
        refine wp_alloc_el hB rfl ?_
        intro g wA hG hge hBA
        replace hB := hBA
        refine hK.out _ _ hB ?_
        clear hK K
        try simp only [Act.put, List.setIfInBounds_toArray, List.set_cons_zero, List.set_cons_succ]
        refine wpB_do (i := 5) (o := { dst := none, op := Op.store 33 (Operand.tmp 6) (Operand.tmp 26), type := 0, pos := "field.go:140", after := #[{ on := 4, ground := Ground.data }, { on := 3, ground := Ground.data }, { on := 3, ground := Ground.chain }, { on := 0, ground := Ground.phase }, { on := 1, ground := Ground.phase }, { on := 2, ground := Ground.phase }, { on := 3, ground := Ground.phase }, { on := 4, ground := Ground.phase }], guard := none }) (by kernel_rfl) rfl (by rfl) fun K hK => ?_
        refine wp_store_el (l := z4) (l2 := lm) hB hge _ _ rfl rfl rfl hG z4_el hm ?_
        intro wS hGS hBS
        replace hB := hBS
        refine hK.out _ _ hB ?_
        clear hK K
        try simp only [Act.put, List.setIfInBounds_toArray, List.set_cons_zero, List.set_cons_succ]
        refine wpB_done (by kernel_rfl) ?_
        go_wp2_with fail
        go_meet
        exact ⟨g, lm, rfl, hge, hm, pm, hGS, hB⟩
      · refine wp_alloc_el hB rfl ?_
        intro g wA hG hge hBA
        replace hB := hBA
        refine hK.out _ _ hB ?_
        clear hK K
        try simp only [Act.put, List.setIfInBounds_toArray, List.set_cons_zero, List.set_cons_succ]
        refine wpB_do (i := 3) (o := { dst := some 26, op := Op.call { callee := Callee.value (Operand.func 26), args := #[Operand.tmp 23, Operand.tmp 25], argTypes := #[33, 33] }, type := 33, pos := "field.go:140", after := #[{ on := 0, ground := Ground.data }, { on := 2, ground := Ground.data }, { on := 2, ground := Ground.chain }], guard := none }) (by kernel_rfl) rfl (by rfl) fun K hK => ?_
        go_simp
        refine (fmul_any _ _ l4 lq h4 hq rfl rfl _).mono ?_
        rintro e wm ⟨lm, rfl, hm, hem, bm⟩
        have pm := Pw.exp (p4.mul pq hem) rfl
        replace hB := stepB hB bm
        try replace hG := hG.kept bm
        refine hK.out _ _ hB ?_
        clear hK K
        try simp only [Act.put, List.setIfInBounds_toArray, List.set_cons_zero, List.set_cons_succ]
        refine wpB_do (i := 5) (o := { dst := none, op := Op.store 33 (Operand.tmp 6) (Operand.tmp 26), type := 0, pos := "field.go:140", after := #[{ on := 4, ground := Ground.data }, { on := 3, ground := Ground.data }, { on := 3, ground := Ground.chain }, { on := 0, ground := Ground.phase }, { on := 1, ground := Ground.phase }, { on := 2, ground := Ground.phase }, { on := 3, ground := Ground.phase }, { on := 4, ground := Ground.phase }], guard := none }) (by kernel_rfl) rfl (by rfl) fun K hK => ?_
        refine wp_store_el (l := z4) (l2 := lm) hB hge _ _ rfl rfl rfl hG z4_el hm ?_
        intro wS hGS hBS
        replace hB := hBS
        refine hK.out _ _ hB ?_
        clear hK K
        try simp only [Act.put, List.setIfInBounds_toArray, List.set_cons_zero, List.set_cons_succ]
        refine wpB_done (by kernel_rfl) ?_
        go_wp2_with fail
        go_meet
        exact ⟨g, lm, rfl, hge, hm, pm, hGS, hB⟩
    · refine wp_alloc_el hB rfl ?_
      intro g wA hG hge hBA
      replace hB := hBA
      refine hK.out _ _ hB ?_
      clear hK K
      try simp only [Act.put, List.setIfInBounds_toArray, List.set_cons_zero, List.set_cons_succ]
      refine wpB_do (i := 2) (o := { dst := some 25, op := Op.call { callee := Callee.value (Operand.func 31), args := #[Operand.tmp 24], argTypes := #[33] }, type := 33, pos := "field.go:140", after := #[{ on := 1, ground := Ground.data }], guard := none }) (by kernel_rfl) rfl (by rfl) fun K hK => ?_
      go_simp
      refine (fsquare_any _ l5 h5 rfl _).mono ?_
      rintro e wq ⟨lq, rfl, hq, heq, bq⟩
      have pq := p5.sq heq
      replace hB := stepB hB bq
      try replace hG := hG.kept bq
      refine hK.out _ _ hB ?_
      clear hK K
      try simp only [Act.put, List.setIfInBounds_toArray, List.set_cons_zero, List.set_cons_succ]
      refine wpB_do (i := 3) (o := { dst := some 26, op := Op.call { callee := Callee.value (Operand.func 26), args := #[Operand.tmp 23, Operand.tmp 25], argTypes := #[33, 33] }, type := 33, pos := "field.go:140", after := #[{ on := 0, ground := Ground.data }, { on := 2, ground := Ground.data }, { on := 2, ground := Ground.chain }], guard := none }) (by kernel_rfl) rfl (by rfl) fun K hK => ?_
      go_simp
      refine (fmul_any _ _ l4 lq h4 hq rfl rfl _).mono ?_
      rintro e wm ⟨lm, rfl, hm, hem, bm⟩
      have pm := Pw.exp (p4.mul pq hem) rfl
      replace hB := stepB hB bm
      try replace hG := hG.kept bm
      refine hK.out _ _ hB ?_
      clear hK K
      try simp only [Act.put, List.setIfInBounds_toArray, List.set_cons_zero, List.set_cons_succ]
      refine wpB_do (i := 5) (o := { dst := none, op := Op.store 33 (Operand.tmp 6) (Operand.tmp 26), type := 0, pos := "field.go:140", after := #[{ on := 4, ground := Ground.data }, { on := 3, ground := Ground.data }, { on := 3, ground := Ground.chain }, { on := 0, ground := Ground.phase }, { on := 1, ground := Ground.phase }, { on := 2, ground := Ground.phase }, { on := 3, ground := Ground.phase }, { on := 4, ground := Ground.phase }], guard := none }) (by kernel_rfl) rfl (by rfl) fun K hK => ?_
      refine wp_store_el (l := z4) (l2 := lm) hB hge _ _ rfl rfl rfl hG z4_el hm ?_
      intro wS hGS hBS
      replace hB := hBS
      refine hK.out _ _ hB ?_
      clear hK K
      try simp only [Act.put, List.setIfInBounds_toArray, List.set_cons_zero, List.set_cons_succ]
      refine wpB_done (by kernel_rfl) ?_
      go_wp2_with fail
      go_meet
      exact ⟨g, lm, rfl, hge, hm, pm, hGS, hB⟩
  case rest =>
  obtain ⟨g6, l6, rfl, hge6, H6, P6, r6, bc6⟩ := hcut
  have h6 := H6.out
  have p6 := P6.out
  clear H6 P6
  replace r2 := r2.kept bc6
  replace r4 := r4.kept bc6
  replace r5 := r5.kept bc6
  replace hbw := stepB hbw bc6
  clear bc6
  rename World => W6
  clear r4
  go_upto_region 5 with fail
  go_cut [7] (fun v wx => ∃ (g : Nat) (l : List Nat), v = .pointer (some ⟨g, 0, none⟩) ∧ W6.heap.size ≤ g ∧ Hid (El4 l) ∧ Hid (Pw X (dn 10) l) ∧ RowAt .u64 33 g 4 (nI l) wx ∧ Below W6.heap.size W6 wx)
  case first =>
    have hB : Below W6.heap.size W6 W6.drew := (Below.refl _ _).drew
    refine wpB_begin (Below.refl W6.heap.size W6) (by kernel_rfl) ?_
    refine wpB_take (hb := hB) (i := 0) (oi := { dst := some 27, op := Op.load 33 (Operand.tmp 6), type := 33, pos := "field.go:141", after := #[], guard := none }) (v := ?_) rfl (by kernel_rfl) (by kernel_rfl) (by kernel_rfl) (by rfl) ?_ ?_
    rotate_left
    · intro W hW; refine Eq.trans (exec_load_row' 33 _ (by rfl) (by rfl) r6 hW _ Try.underlying33 rfl (elInfo h6)) ?_; with_reducible rfl
    try simp only [Act.put, List.setIfInBounds_toArray, List.set_cons_zero, List.set_cons_succ]
    refine wpB_take (hb := hB) (i := 1) (oi := { dst := some 28, op := Op.load 33 (Operand.tmp 6), type := 33, pos := "field.go:141", after := #[], guard := none }) (v := ?_) rfl (by kernel_rfl) (by kernel_rfl) (by kernel_rfl) (by rfl) ?_ ?_
    rotate_left
    · intro W hW; refine Eq.trans (exec_load_row' 33 _ (by rfl) (by rfl) r6 hW _ Try.underlying33 rfl (elInfo h6)) ?_; with_reducible rfl
    try simp only [Act.put, List.setIfInBounds_toArray, List.set_cons_zero, List.set_cons_succ]
    refine wpB_fork (i := 2) (j := 4) (oi := { dst := some 29, op := Op.call { callee := Callee.value (Operand.func 36), args := #[Operand.tmp 28, Operand.const (Value.int IntKind.i64 5)], argTypes := #[33, 3] }, type := 33, pos := "field.go:141", after := #[{ on := 1, ground := Ground.data }], guard := none }) (oj := { dst := some 7, op := Op.alloc 33, type := 0, pos := "field.go:141", after := #[], guard := none }) (by kernel_rfl) rfl rfl (by rfl) (by rfl) (fun K hK => ?_) (fun K hK => ?_)
    · go_simp
      refine (squares_any _ l6 5 _ h6 (by decide) rfl rfl _).mono ?_
      rintro e wq ⟨lq, rfl, hq, heq, bq⟩
      have pq := p6.sqs (n := 5) heq
      replace hB := stepB hB bq
      try replace hG := hG.kept bq
      refine hK.out _ _ hB ?_
      clear hK K
      try simp only [Act.put, List.setIfInBounds_toArray, List.set_cons_zero, List.set_cons_succ]
      refine wpB_fork (i := 3) (j := 4) (oi := { dst := some 30, op := Op.call { callee := Callee.value (Operand.func 26), args := #[Operand.tmp 27, Operand.tmp 29], argTypes := #[33, 33] }, type := 33, pos := "field.go:141", after := #[{ on := 0, ground := Ground.data }, { on := 2, ground := Ground.data }, { on := 2, ground := Ground.chain }], guard := none }) (oj := { dst := some 7, op := Op.alloc 33, type := 0, pos := "field.go:141", after := #[], guard := none }) (by kernel_rfl) rfl rfl (by rfl) (by rfl) (fun K hK => ?_) (fun K hK => ?_)
      · go_simp
        refine (fmul_any _ _ l6 lq h6 hq rfl rfl _).mono ?_
        rintro e wm ⟨lm, rfl, hm, hem, bm⟩
        have pm := Pw.exp (p6.mul pq hem) (dn_add 5 5)
        replace hB := stepB hB bm
        try replace hG := hG.kept bm
        refine hK.out _ _ hB ?_
        clear hK K
        try simp only [Act.put, List.setIfInBounds_toArray, List.set_cons_zero, List.set_cons_succ]
        refine wpB_do (i := 4) (o := { dst := some 7, op := Op.alloc 33, type := 0, pos := "field.go:141", after := #[], guard := none }) (by kernel_rfl) rfl (by rfl) fun K hK => ?_
        refine wp_alloc_el hB rfl ?_
        intro g wA hG hge hBA
        replace hB := hBA
        refine hK.out _ _ hB ?_
        clear hK K
        try simp only [Act.put, List.setIfInBounds_toArray, List.set_cons_zero, List.set_cons_succ]
        refine wpB_do (i := 5) (o := { dst := none, op := Op.store 33 (Operand.tmp 7) (Operand.tmp 30), type := 0, pos := "field.go:141", after := #[{ on := 4, ground := Ground.data }, { on := 3, ground := Ground.data }, { on := 3, ground := Ground.chain }, { on := 0, ground := Ground.phase }, { on := 1, ground := Ground.phase }, { on := 2, ground := Ground.phase }, { on := 3, ground := Ground.phase }, { on := 4, ground := Ground.phase }], guard := none }) (by kernel_rfl) rfl (by rfl) fun K hK => ?_
        refine wp_store_el (l := z4) (l2 := lm) hB hge _ _ rfl rfl rfl hG z4_el hm ?_
        intro wS hGS hBS
        replace hB := hBS
        refine hK.out _ _ hB ?_
        clear hK K
        try simp only [Act.put, List.setIfInBounds_toArray, List.set_cons_zero, List.set_cons_succ]
        refine wpB_done (by kernel_rfl) ?_
        go_wp2_with fail
        go_meet
        exact ⟨g, lm, rfl, hge, hm, pm, hGS, hB⟩
      · refine wp_alloc_el hB rfl ?_
        intro g wA hG hge hBA
        replace hB := hBA
        refine hK.out _ _ hB ?_
        clear hK K
        try simp only [Act.put, List.setIfInBounds_toArray, List.set_cons_zero, List.set_cons_succ]
        refine wpB_do (i := 3) (o := { dst := some 30, op := Op.call { callee := Callee.value (Operand.func 26), args := #[Operand.tmp 27, Operand.tmp 29], argTypes := #[33, 33] }, type := 33, pos := "field.go:141", after := #[{ on := 0, ground := Ground.data }, { on := 2, ground := Ground.data }, { on := 2, ground := Ground.chain }], guard := none }) (by kernel_rfl) rfl (by rfl) fun K hK => ?_
        go_simp
        refine (fmul_any _ _ l6 lq h6 hq rfl rfl _).mono ?_
        rintro e wm ⟨lm, rfl, hm, hem, bm⟩
        have pm := Pw.exp (p6.mul pq hem) (dn_add 5 5)
        replace hB := stepB hB bm
        try replace hG := hG.kept bm
        refine hK.out _ _ hB ?_
        clear hK K
        try simp only [Act.put, List.setIfInBounds_toArray, List.set_cons_zero, List.set_cons_succ]
        refine wpB_do (i := 5) (o := { dst := none, op := Op.store 33 (Operand.tmp 7) (Operand.tmp 30), type := 0, pos := "field.go:141", after := #[{ on := 4, ground := Ground.data }, { on := 3, ground := Ground.data }, { on := 3, ground := Ground.chain }, { on := 0, ground := Ground.phase }, { on := 1, ground := Ground.phase }, { on := 2, ground := Ground.phase }, { on := 3, ground := Ground.phase }, { on := 4, ground := Ground.phase }], guard := none }) (by kernel_rfl) rfl (by rfl) fun K hK => ?_
        refine wp_store_el (l := z4) (l2 := lm) hB hge _ _ rfl rfl rfl hG z4_el hm ?_
        intro wS hGS hBS
        replace hB := hBS
        refine hK.out _ _ hB ?_
        clear hK K
        try simp only [Act.put, List.setIfInBounds_toArray, List.set_cons_zero, List.set_cons_succ]
        refine wpB_done (by kernel_rfl) ?_
        go_wp2_with fail
        go_meet
        exact ⟨g, lm, rfl, hge, hm, pm, hGS, hB⟩
    · refine wp_alloc_el hB rfl ?_
      intro g wA hG hge hBA
      replace hB := hBA
      refine hK.out _ _ hB ?_
      clear hK K
      try simp only [Act.put, List.setIfInBounds_toArray, List.set_cons_zero, List.set_cons_succ]
      refine wpB_do (i := 2) (o := { dst := some 29, op := Op.call { callee := Callee.value (Operand.func 36), args := #[Operand.tmp 28, Operand.const (Value.int IntKind.i64 5)], argTypes := #[33, 3] }, type := 33, pos := "field.go:141", after := #[{ on := 1, ground := Ground.data }], guard := none }) (by kernel_rfl) rfl (by rfl) fun K hK => ?_
      go_simp
      refine (squares_any _ l6 5 _ h6 (by decide) rfl rfl _).mono ?_
      rintro e wq ⟨lq, rfl, hq, heq, bq⟩
      have pq := p6.sqs (n := 5) heq
      replace hB := stepB hB bq
      try replace hG := hG.kept bq
      refine hK.out _ _ hB ?_
      clear hK K
      try simp only [Act.put, List.setIfInBounds_toArray, List.set_cons_zero, List.set_cons_succ]
      refine wpB_do (i := 3) (o := { dst := some 30, op := Op.call { callee := Callee.value (Operand.func 26), args := #[Operand.tmp 27, Operand.tmp 29], argTypes := #[33, 33] }, type := 33, pos := "field.go:141", after := #[{ on := 0, ground := Ground.data }, { on := 2, ground := Ground.data }, { on := 2, ground := Ground.chain }], guard := none }) (by kernel_rfl) rfl (by rfl) fun K hK => ?_
      go_simp
      refine (fmul_any _ _ l6 lq h6 hq rfl rfl _).mono ?_
      rintro e wm ⟨lm, rfl, hm, hem, bm⟩
      have pm := Pw.exp (p6.mul pq hem) (dn_add 5 5)
      replace hB := stepB hB bm
      try replace hG := hG.kept bm
      refine hK.out _ _ hB ?_
      clear hK K
      try simp only [Act.put, List.setIfInBounds_toArray, List.set_cons_zero, List.set_cons_succ]
      refine wpB_do (i := 5) (o := { dst := none, op := Op.store 33 (Operand.tmp 7) (Operand.tmp 30), type := 0, pos := "field.go:141", after := #[{ on := 4, ground := Ground.data }, { on := 3, ground := Ground.data }, { on := 3, ground := Ground.chain }, { on := 0, ground := Ground.phase }, { on := 1, ground := Ground.phase }, { on := 2, ground := Ground.phase }, { on := 3, ground := Ground.phase }, { on := 4, ground := Ground.phase }], guard := none }) (by kernel_rfl) rfl (by rfl) fun K hK => ?_
      refine wp_store_el (l := z4) (l2 := lm) hB hge _ _ rfl rfl rfl hG z4_el hm ?_
      intro wS hGS hBS
      replace hB := hBS
      refine hK.out _ _ hB ?_
      clear hK K
      try simp only [Act.put, List.setIfInBounds_toArray, List.set_cons_zero, List.set_cons_succ]
      refine wpB_done (by kernel_rfl) ?_
      go_wp2_with fail
      go_meet
      exact ⟨g, lm, rfl, hge, hm, pm, hGS, hB⟩
  case rest =>
  obtain ⟨g7, l7, rfl, hge7, H7, P7, r7, bc7⟩ := hcut
  have h7 := H7.out
  have p7 := P7.out
  clear H7 P7
  replace r2 := r2.kept bc7
  replace r5 := r5.kept bc7
  replace r6 := r6.kept bc7
  replace hbw := stepB hbw bc7
  clear bc7
  rename World => W7
  clear r6
  go_upto_region 6 with fail
  go_cut [8] (fun v wx => ∃ (g : Nat) (l : List Nat), v = .pointer (some ⟨g, 0, none⟩) ∧ W7.heap.size ≤ g ∧ Hid (El4 l) ∧ Hid (Pw X (dn 20) l) ∧ RowAt .u64 33 g 4 (nI l) wx ∧ Below W7.heap.size W7 wx)
  case first =>
    have hB : Below W7.heap.size W7 W7.drew := (Below.refl _ _).drew
    refine wpB_begin (Below.refl W7.heap.size W7) (by kernel_rfl) ?_
    refine wpB_take (hb := hB) (i := 0) (oi := { dst := some 31, op := Op.load 33 (Operand.tmp 7), type := 33, pos := "field.go:142", after := #[], guard := none }) (v := ?_) rfl (by kernel_rfl) (by kernel_rfl) (by kernel_rfl) (by rfl) ?_ ?_
    rotate_left
    · intro W hW; refine Eq.trans (exec_load_row' 33 _ (by rfl) (by rfl) r7 hW _ Try.underlying33 rfl (elInfo h7)) ?_; with_reducible rfl
    try simp only [Act.put, List.setIfInBounds_toArray, List.set_cons_zero, List.set_cons_succ]
    refine wpB_take (hb := hB) (i := 1) (oi := { dst := some 32, op := Op.load 33 (Operand.tmp 7), type := 33, pos := "field.go:142", after := #[], guard := none }) (v := ?_) rfl (by kernel_rfl) (by kernel_rfl) (by kernel_rfl) (by rfl) ?_ ?_
    rotate_left
    · intro W hW; refine Eq.trans (exec_load_row' 33 _ (by rfl) (by rfl) r7 hW _ Try.underlying33 rfl (elInfo h7)) ?_; with_reducible rfl
    try simp only [Act.put, List.setIfInBounds_toArray, List.set_cons_zero, List.set_cons_succ]
    refine wpB_fork (i := 2) (j := 4) (oi := { dst := some 33, op := Op.call { callee := Callee.value (Operand.func 36), args := #[Operand.tmp 32, Operand.const (Value.int IntKind.i64 10)], argTypes := #[33, 3] }, type := 33, pos := "field.go:142", after := #[{ on := 1, ground := Ground.data }], guard := none }) (oj := { dst := some 8, op := Op.alloc 33, type := 0, pos := "field.go:142", after := #[], guard := none }) (by kernel_rfl) rfl rfl (by rfl) (by rfl) (fun K hK => ?_) (fun K hK => ?_)
    · go_simp
      refine (squares_any _ l7 10 _ h7 (by decide) rfl rfl _).mono ?_
      rintro e wq ⟨lq, rfl, hq, heq, bq⟩
      have pq := p7.sqs (n := 10) heq
      replace hB := stepB hB bq
      try replace hG := hG.kept bq
      refine hK.out _ _ hB ?_
      clear hK K
      try simp only [Act.put, List.setIfInBounds_toArray, List.set_cons_zero, List.set_cons_succ]
      refine wpB_fork (i := 3) (j := 4) (oi := { dst := some 34, op := Op.call { callee := Callee.value (Operand.func 26), args := #[Operand.tmp 31, Operand.tmp 33], argTypes := #[33, 33] }, type := 33, pos := "field.go:142", after := #[{ on := 0, ground := Ground.data }, { on := 2, ground := Ground.data }, { on := 2, ground := Ground.chain }], guard := none }) (oj := { dst := some 8, op := Op.alloc 33, type := 0, pos := "field.go:142", after := #[], guard := none }) (by kernel_rfl) rfl rfl (by rfl) (by rfl) (fun K hK => ?_) (fun K hK => ?_)
      · go_simp
        refine (fmul_any _ _ l7 lq h7 hq rfl rfl _).mono ?_
        rintro e wm ⟨lm, rfl, hm, hem, bm⟩
        have pm := Pw.exp (p7.mul pq hem) (dn_add 10 10)
        replace hB := stepB hB bm
        try replace hG := hG.kept bm
        refine hK.out _ _ hB ?_
        clear hK K
        try simp only [Act.put, List.setIfInBounds_toArray, List.set_cons_zero, List.set_cons_succ]
        refine wpB_do (i := 4) (o := { dst := some 8, op := Op.alloc 33, type := 0, pos := "field.go:142", after := #[], guard := none }) (by kernel_rfl) rfl (by rfl) fun K hK => ?_
        refine wp_alloc_el hB rfl ?_
        intro g wA hG hge hBA
        replace hB := hBA
        refine hK.out _ _ hB ?_
        clear hK K
        try simp only [Act.put, List.setIfInBounds_toArray, List.set_cons_zero, List.set_cons_succ]
        refine wpB_do (i := 5) (o := { dst := none, op := Op.store 33 (Operand.tmp 8) (Operand.tmp 34), type := 0, pos := "field.go:142", after := #[{ on := 4, ground := Ground.data }, { on := 3, ground := Ground.data }, { on := 3, ground := Ground.chain }, { on := 0, ground := Ground.phase }, { on := 1, ground := Ground.phase }, { on := 2, ground := Ground.phase }, { on := 3, ground := Ground.phase }, { on := 4, ground := Ground.phase }], guard := none }) (by kernel_rfl) rfl (by rfl) fun K hK => ?_
        refine wp_store_el (l := z4) (l2 := lm) hB hge _ _ rfl rfl rfl hG z4_el hm ?_
        intro wS hGS hBS
        replace hB := hBS
        refine hK.out _ _ hB ?_
        clear hK K
        try simp only [Act.put, List.setIfInBounds_toArray, List.set_cons_zero, List.set_cons_succ]
        refine wpB_done (by kernel_rfl) ?_
        go_wp2_with fail
        go_meet
        exact ⟨g, lm, rfl, hge, hm, pm, hGS, hB⟩
      · refine wp_alloc_el hB rfl ?_
        intro g wA hG hge hBA
        replace hB := hBA
        refine hK.out _ _ hB ?_
        clear hK K
        try simp only [Act.put, List.setIfInBounds_toArray, List.set_cons_zero, List.set_cons_succ]
        refine wpB_do (i := 3) (o := { dst := some 34, op := Op.call { callee := Callee.value (Operand.func 26), args := #[Operand.tmp 31, Operand.tmp 33], argTypes := #[33, 33] }, type := 33, pos := "field.go:142", after := #[{ on := 0, ground := Ground.data }, { on := 2, ground := Ground.data }, { on := 2, ground := Ground.chain }], guard := none }) (by kernel_rfl) rfl (by rfl) fun K hK => ?_
        go_simp
        refine (fmul_any _ _ l7 lq h7 hq rfl rfl _).mono ?_
        rintro e wm ⟨lm, rfl, hm, hem, bm⟩
        have pm := Pw.exp (p7.mul pq hem) (dn_add 10 10)
        replace hB := stepB hB bm
        try replace hG := hG.kept bm
        refine hK.out _ _ hB ?_
        clear hK K
        try simp only [Act.put, List.setIfInBounds_toArray, List.set_cons_zero, List.set_cons_succ]
        refine wpB_do (i := 5) (o := { dst := none, op := Op.store 33 (Operand.tmp 8) (Operand.tmp 34), type := 0, pos := "field.go:142", after := #[{ on := 4, ground := Ground.data }, { on := 3, ground := Ground.data }, { on := 3, ground := Ground.chain }, { on := 0, ground := Ground.phase }, { on := 1, ground := Ground.phase }, { on := 2, ground := Ground.phase }, { on := 3, ground := Ground.phase }, { on := 4, ground := Ground.phase }], guard := none }) (by kernel_rfl) rfl (by rfl) fun K hK => ?_
        refine wp_store_el (l := z4) (l2 := lm) hB hge _ _ rfl rfl rfl hG z4_el hm ?_
        intro wS hGS hBS
        replace hB := hBS
        refine hK.out _ _ hB ?_
        clear hK K
        try simp only [Act.put, List.setIfInBounds_toArray, List.set_cons_zero, List.set_cons_succ]
        refine wpB_done (by kernel_rfl) ?_
        go_wp2_with fail
        go_meet
        exact ⟨g, lm, rfl, hge, hm, pm, hGS, hB⟩
    · refine wp_alloc_el hB rfl ?_
      intro g wA hG hge hBA
      replace hB := hBA
      refine hK.out _ _ hB ?_
      clear hK K
      try simp only [Act.put, List.setIfInBounds_toArray, List.set_cons_zero, List.set_cons_succ]
      refine wpB_do (i := 2) (o := { dst := some 33, op := Op.call { callee := Callee.value (Operand.func 36), args := #[Operand.tmp 32, Operand.const (Value.int IntKind.i64 10)], argTypes := #[33, 3] }, type := 33, pos := "field.go:142", after := #[{ on := 1, ground := Ground.data }], guard := none }) (by kernel_rfl) rfl (by rfl) fun K hK => ?_
      go_simp
      refine (squares_any _ l7 10 _ h7 (by decide) rfl rfl _).mono ?_
      rintro e wq ⟨lq, rfl, hq, heq, bq⟩
      have pq := p7.sqs (n := 10) heq
      replace hB := stepB hB bq
      try replace hG := hG.kept bq
      refine hK.out _ _ hB ?_
      clear hK K
      try simp only [Act.put, List.setIfInBounds_toArray, List.set_cons_zero, List.set_cons_succ]
      refine wpB_do (i := 3) (o := { dst := some 34, op := Op.call { callee := Callee.value (Operand.func 26), args := #[Operand.tmp 31, Operand.tmp 33], argTypes := #[33, 33] }, type := 33, pos := "field.go:142", after := #[{ on := 0, ground := Ground.data }, { on := 2, ground := Ground.data }, { on := 2, ground := Ground.chain }], guard := none }) (by kernel_rfl) rfl (by rfl) fun K hK => ?_
      go_simp
      refine (fmul_any _ _ l7 lq h7 hq rfl rfl _).mono ?_
      rintro e wm ⟨lm, rfl, hm, hem, bm⟩
      have pm := Pw.exp (p7.mul pq hem) (dn_add 10 10)
      replace hB := stepB hB bm
      try replace hG := hG.kept bm
      refine hK.out _ _ hB ?_
      clear hK K
      try simp only [Act.put, List.setIfInBounds_toArray, List.set_cons_zero, List.set_cons_succ]
      refine wpB_do (i := 5) (o := { dst := none, op := Op.store 33 (Operand.tmp 8) (Operand.tmp 34), type := 0, pos := "field.go:142", after := #[{ on := 4, ground := Ground.data }, { on := 3, ground := Ground.data }, { on := 3, ground := Ground.chain }, { on := 0, ground := Ground.phase }, { on := 1, ground := Ground.phase }, { on := 2, ground := Ground.phase }, { on := 3, ground := Ground.phase }, { on := 4, ground := Ground.phase }], guard := none }) (by kernel_rfl) rfl (by rfl) fun K hK => ?_
      refine wp_store_el (l := z4) (l2 := lm) hB hge _ _ rfl rfl rfl hG z4_el hm ?_
      intro wS hGS hBS
      replace hB := hBS
      refine hK.out _ _ hB ?_
      clear hK K
      try simp only [Act.put, List.setIfInBounds_toArray, List.set_cons_zero, List.set_cons_succ]
      refine wpB_done (by kernel_rfl) ?_
      go_wp2_with fail
      go_meet
      exact ⟨g, lm, rfl, hge, hm, pm, hGS, hB⟩
  case rest =>
  obtain ⟨g8, l8, rfl, hge8, H8, P8, r8, bc8⟩ := hcut
  have h8 := H8.out
  have p8 := P8.out
  clear H8 P8
  replace r2 := r2.kept bc8
  replace r5 := r5.kept bc8
  replace r7 := r7.kept bc8
  replace hbw := stepB hbw bc8
  clear bc8
  rename World => W8
  go_upto_region 7 with fail
  go_cut [9] (fun v wx => ∃ (g : Nat) (l : List Nat), v = .pointer (some ⟨g, 0, none⟩) ∧ W8.heap.size ≤ g ∧ Hid (El4 l) ∧ Hid (Pw X (dn 40) l) ∧ RowAt .u64 33 g 4 (nI l) wx ∧ Below W8.heap.size W8 wx)
  case first =>
    have hB : Below W8.heap.size W8 W8.drew := (Below.refl _ _).drew
    refine wpB_begin (Below.refl W8.heap.size W8) (by kernel_rfl) ?_
    refine wpB_take (hb := hB) (i := 0) (oi := { dst := some 35, op := Op.load 33 (Operand.tmp 8), type := 33, pos := "field.go:143", after := #[], guard := none }) (v := ?_) rfl (by kernel_rfl) (by kernel_rfl) (by kernel_rfl) (by rfl) ?_ ?_
    rotate_left
    · intro W hW; refine Eq.trans (exec_load_row' 33 _ (by rfl) (by rfl) r8 hW _ Try.underlying33 rfl (elInfo h8)) ?_; with_reducible rfl
    try simp only [Act.put, List.setIfInBounds_toArray, List.set_cons_zero, List.set_cons_succ]
    refine wpB_take (hb := hB) (i := 1) (oi := { dst := some 36, op := Op.load 33 (Operand.tmp 8), type := 33, pos := "field.go:143", after := #[], guard := none }) (v := ?_) rfl (by kernel_rfl) (by kernel_rfl) (by kernel_rfl) (by rfl) ?_ ?_
    rotate_left
    · intro W hW; refine Eq.trans (exec_load_row' 33 _ (by rfl) (by rfl) r8 hW _ Try.underlying33 rfl (elInfo h8)) ?_; with_reducible rfl
    try simp only [Act.put, List.setIfInBounds_toArray, List.set_cons_zero, List.set_cons_succ]
    refine wpB_fork (i := 2) (j := 4) (oi := { dst := some 37, op := Op.call { callee := Callee.value (Operand.func 36), args := #[Operand.tmp 36, Operand.const (Value.int IntKind.i64 20)], argTypes := #[33, 3] }, type := 33, pos := "field.go:143", after := #[{ on := 1, ground := Ground.data }], guard := none }) (oj := { dst := some 9, op := Op.alloc 33, type := 0, pos := "field.go:143", after := #[], guard := none }) (by kernel_rfl) rfl rfl (by rfl) (by rfl) (fun K hK => ?_) (fun K hK => ?_)
    · go_simp
      refine (squares_any _ l8 20 _ h8 (by decide) rfl rfl _).mono ?_
      rintro e wq ⟨lq, rfl, hq, heq, bq⟩
      have pq := p8.sqs (n := 20) heq
      replace hB := stepB hB bq
      try replace hG := hG.kept bq
      refine hK.out _ _ hB ?_
      clear hK K
      try simp only [Act.put, List.setIfInBounds_toArray, List.set_cons_zero, List.set_cons_succ]
      refine wpB_fork (i := 3) (j := 4) (oi := { dst := some 38, op := Op.call { callee := Callee.value (Operand.func 26), args := #[Operand.tmp 35, Operand.tmp 37], argTypes := #[33, 33] }, type := 33, pos := "field.go:143", after := #[{ on := 0, ground := Ground.data }, { on := 2, ground := Ground.data }, { on := 2, ground := Ground.chain }], guard := none }) (oj := { dst := some 9, op := Op.alloc 33, type := 0, pos := "field.go:143", after := #[], guard := none }) (by kernel_rfl) rfl rfl (by rfl) (by rfl) (fun K hK => ?_) (fun K hK => ?_)
      · go_simp
        refine (fmul_any _ _ l8 lq h8 hq rfl rfl _).mono ?_
        rintro e wm ⟨lm, rfl, hm, hem, bm⟩
        have pm := Pw.exp (p8.mul pq hem) (dn_add 20 20)
        replace hB := stepB hB bm
        try replace hG := hG.kept bm
        refine hK.out _ _ hB ?_
        clear hK K
        try simp only [Act.put, List.setIfInBounds_toArray, List.set_cons_zero, List.set_cons_succ]
        refine wpB_do (i := 4) (o := { dst := some 9, op := Op.alloc 33, type := 0, pos := "field.go:143", after := #[], guard := none }) (by kernel_rfl) rfl (by rfl) fun K hK => ?_
        refine wp_alloc_el hB rfl ?_
        intro g wA hG hge hBA
        replace hB := hBA
        refine hK.out _ _ hB ?_
        clear hK K
        try simp only [Act.put, List.setIfInBounds_toArray, List.set_cons_zero, List.set_cons_succ]
        refine wpB_do (i := 5) (o := { dst := none, op := Op.store 33 (Operand.tmp 9) (Operand.tmp 38), type := 0, pos := "field.go:143", after := #[{ on := 4, ground := Ground.data }, { on := 3, ground := Ground.data }, { on := 3, ground := Ground.chain }, { on := 0, ground := Ground.phase }, { on := 1, ground := Ground.phase }, { on := 2, ground := Ground.phase }, { on := 3, ground := Ground.phase }, { on := 4, ground := Ground.phase }], guard := none }) (by kernel_rfl) rfl (by rfl) fun K hK => ?_
        refine wp_store_el (l := z4) (l2 := lm) hB hge _ _ rfl rfl rfl hG z4_el hm ?_
        intro wS hGS hBS
        replace hB := hBS
        refine hK.out _ _ hB ?_
        clear hK K
        try simp only [Act.put, List.setIfInBounds_toArray, List.set_cons_zero, List.set_cons_succ]
        refine wpB_done (by kernel_rfl) ?_
        go_wp2_with fail
        go_meet
        exact ⟨g, lm, rfl, hge, hm, pm, hGS, hB⟩
      · refine wp_alloc_el hB rfl ?_
        intro g wA hG hge hBA
        replace hB := hBA
        refine hK.out _ _ hB ?_
        clear hK K
        try simp only [Act.put, List.setIfInBounds_toArray, List.set_cons_zero, List.set_cons_succ]
        refine wpB_do (i := 3) (o := { dst := some 38, op := Op.call { callee := Callee.value (Operand.func 26), args := #[Operand.tmp 35, Operand.tmp 37], argTypes := #[33, 33] }, type := 33, pos := "field.go:143", after := #[{ on := 0, ground := Ground.data }, { on := 2, ground := Ground.data }, { on := 2, ground := Ground.chain }], guard := none }) (by kernel_rfl) rfl (by rfl) fun K hK => ?_
        go_simp
        refine (fmul_any _ _ l8 lq h8 hq rfl rfl _).mono ?_
        rintro e wm ⟨lm, rfl, hm, hem, bm⟩
        have pm := Pw.exp (p8.mul pq hem) (dn_add 20 20)
        replace hB := stepB hB bm
        try replace hG := hG.kept bm
        refine hK.out _ _ hB ?_
        clear hK K
        try simp only [Act.put, List.setIfInBounds_toArray, List.set_cons_zero, List.set_cons_succ]
        refine wpB_do (i := 5) (o := { dst := none, op := Op.store 33 (Operand.tmp 9) (Operand.tmp 38), type := 0, pos := "field.go:143", after := #[{ on := 4, ground := Ground.data }, { on := 3, ground := Ground.data }, { on := 3, ground := Ground.chain }, { on := 0, ground := Ground.phase }, { on := 1, ground := Ground.phase }, { on := 2, ground := Ground.phase }, { on := 3, ground := Ground.phase }, { on := 4, ground := Ground.phase }], guard := none }) (by kernel_rfl) rfl (by rfl) fun K hK => ?_
        refine wp_store_el (l := z4) (l2 := lm) hB hge _ _ rfl rfl rfl hG z4_el hm ?_
        intro wS hGS hBS
        replace hB := hBS
        refine hK.out _ _ hB ?_
        clear hK K
        try simp only [Act.put, List.setIfInBounds_toArray, List.set_cons_zero, List.set_cons_succ]
        refine wpB_done (by kernel_rfl) ?_
        go_wp2_with fail
        go_meet
        exact ⟨g, lm, rfl, hge, hm, pm, hGS, hB⟩
    · refine wp_alloc_el hB rfl ?_
      intro g wA hG hge hBA
      replace hB := hBA
      refine hK.out _ _ hB ?_
      clear hK K
      try simp only [Act.put, List.setIfInBounds_toArray, List.set_cons_zero, List.set_cons_succ]
      refine wpB_do (i := 2) (o := { dst := some 37, op := Op.call { callee := Callee.value (Operand.func 36), args := #[Operand.tmp 36, Operand.const (Value.int IntKind.i64 20)], argTypes := #[33, 3] }, type := 33, pos := "field.go:143", after := #[{ on := 1, ground := Ground.data }], guard := none }) (by kernel_rfl) rfl (by rfl) fun K hK => ?_
      go_simp
      refine (squares_any _ l8 20 _ h8 (by decide) rfl rfl _).mono ?_
      rintro e wq ⟨lq, rfl, hq, heq, bq⟩
      have pq := p8.sqs (n := 20) heq
      replace hB := stepB hB bq
      try replace hG := hG.kept bq
      refine hK.out _ _ hB ?_
      clear hK K
      try simp only [Act.put, List.setIfInBounds_toArray, List.set_cons_zero, List.set_cons_succ]
      refine wpB_do (i := 3) (o := { dst := some 38, op := Op.call { callee := Callee.value (Operand.func 26), args := #[Operand.tmp 35, Operand.tmp 37], argTypes := #[33, 33] }, type := 33, pos := "field.go:143", after := #[{ on := 0, ground := Ground.data }, { on := 2, ground := Ground.data }, { on := 2, ground := Ground.chain }], guard := none }) (by kernel_rfl) rfl (by rfl) fun K hK => ?_
      go_simp
      refine (fmul_any _ _ l8 lq h8 hq rfl rfl _).mono ?_
      rintro e wm ⟨lm, rfl, hm, hem, bm⟩
      have pm := Pw.exp (p8.mul pq hem) (dn_add 20 20)
      replace hB := stepB hB bm
      try replace hG := hG.kept bm
      refine hK.out _ _ hB ?_
      clear hK K
      try simp only [Act.put, List.setIfInBounds_toArray, List.set_cons_zero, List.set_cons_succ]
      refine wpB_do (i := 5) (o := { dst := none, op := Op.store 33 (Operand.tmp 9) (Operand.tmp 38), type := 0, pos := "field.go:143", after := #[{ on := 4, ground := Ground.data }, { on := 3, ground := Ground.data }, { on := 3, ground := Ground.chain }, { on := 0, ground := Ground.phase }, { on := 1, ground := Ground.phase }, { on := 2, ground := Ground.phase }, { on := 3, ground := Ground.phase }, { on := 4, ground := Ground.phase }], guard := none }) (by kernel_rfl) rfl (by rfl) fun K hK => ?_
      refine wp_store_el (l := z4) (l2 := lm) hB hge _ _ rfl rfl rfl hG z4_el hm ?_
      intro wS hGS hBS
      replace hB := hBS
      refine hK.out _ _ hB ?_
      clear hK K
      try simp only [Act.put, List.setIfInBounds_toArray, List.set_cons_zero, List.set_cons_succ]
      refine wpB_done (by kernel_rfl) ?_
      go_wp2_with fail
      go_meet
      exact ⟨g, lm, rfl, hge, hm, pm, hGS, hB⟩
  case rest =>
  obtain ⟨g9, l9, rfl, hge9, H9, P9, r9, bc9⟩ := hcut
  have h9 := H9.out
  have p9 := P9.out
  clear H9 P9
  replace r2 := r2.kept bc9
  replace r5 := r5.kept bc9
  replace r7 := r7.kept bc9
  replace r8 := r8.kept bc9
  replace hbw := stepB hbw bc9
  clear bc9
  rename World => W9
  clear r8
  go_upto_region 8 with fail
  go_cut [10] (fun v wx => ∃ (g : Nat) (l : List Nat), v = .pointer (some ⟨g, 0, none⟩) ∧ W9.heap.size ≤ g ∧ Hid (El4 l) ∧ Hid (Pw X (dn 50) l) ∧ RowAt .u64 33 g 4 (nI l) wx ∧ Below W9.heap.size W9 wx)
  case first =>
    have hB : Below W9.heap.size W9 W9.drew := (Below.refl _ _).drew
    refine wpB_begin (Below.refl W9.heap.size W9) (by kernel_rfl) ?_
    refine wpB_take (hb := hB) (i := 0) (oi := { dst := some 39, op := Op.load 33 (Operand.tmp 7), type := 33, pos := "field.go:144", after := #[], guard := none }) (v := ?_) rfl (by kernel_rfl) (by kernel_rfl) (by kernel_rfl) (by rfl) ?_ ?_
    rotate_left
    · intro W hW; refine Eq.trans (exec_load_row' 33 _ (by rfl) (by rfl) r7 hW _ Try.underlying33 rfl (elInfo h7)) ?_; with_reducible rfl
    try simp only [Act.put, List.setIfInBounds_toArray, List.set_cons_zero, List.set_cons_succ]
    refine wpB_take (hb := hB) (i := 1) (oi := { dst := some 40, op := Op.load 33 (Operand.tmp 9), type := 33, pos := "field.go:144", after := #[], guard := none }) (v := ?_) rfl (by kernel_rfl) (by kernel_rfl) (by kernel_rfl) (by rfl) ?_ ?_
    rotate_left
    · intro W hW; refine Eq.trans (exec_load_row' 33 _ (by rfl) (by rfl) r9 hW _ Try.underlying33 rfl (elInfo h9)) ?_; with_reducible rfl
    try simp only [Act.put, List.setIfInBounds_toArray, List.set_cons_zero, List.set_cons_succ]
    refine wpB_fork (i := 2) (j := 4) (oi := { dst := some 41, op := Op.call { callee := Callee.value (Operand.func 36), args := #[Operand.tmp 40, Operand.const (Value.int IntKind.i64 10)], argTypes := #[33, 3] }, type := 33, pos := "field.go:144", after := #[{ on := 1, ground := Ground.data }], guard := none }) (oj := { dst := some 10, op := Op.alloc 33, type := 0, pos := "field.go:144", after := #[], guard := none }) (by kernel_rfl) rfl rfl (by rfl) (by rfl) (fun K hK => ?_) (fun K hK => ?_)
    · go_simp
      refine (squares_any _ l9 10 _ h9 (by decide) rfl rfl _).mono ?_
      rintro e wq ⟨lq, rfl, hq, heq, bq⟩
      have pq := p9.sqs (n := 10) heq
      replace hB := stepB hB bq
      try replace hG := hG.kept bq
      refine hK.out _ _ hB ?_
      clear hK K
      try simp only [Act.put, List.setIfInBounds_toArray, List.set_cons_zero, List.set_cons_succ]
      refine wpB_fork (i := 3) (j := 4) (oi := { dst := some 42, op := Op.call { callee := Callee.value (Operand.func 26), args := #[Operand.tmp 39, Operand.tmp 41], argTypes := #[33, 33] }, type := 33, pos := "field.go:144", after := #[{ on := 0, ground := Ground.data }, { on := 2, ground := Ground.data }, { on := 2, ground := Ground.chain }], guard := none }) (oj := { dst := some 10, op := Op.alloc 33, type := 0, pos := "field.go:144", after := #[], guard := none }) (by kernel_rfl) rfl rfl (by rfl) (by rfl) (fun K hK => ?_) (fun K hK => ?_)
      · go_simp
        refine (fmul_any _ _ l7 lq h7 hq rfl rfl _).mono ?_
        rintro e wm ⟨lm, rfl, hm, hem, bm⟩
        have pm := Pw.exp (p7.mul pq hem) (dn_add 10 40)
        replace hB := stepB hB bm
        try replace hG := hG.kept bm
        refine hK.out _ _ hB ?_
        clear hK K
        try simp only [Act.put, List.setIfInBounds_toArray, List.set_cons_zero, List.set_cons_succ]
        refine wpB_do (i := 4) (o := { dst := some 10, op := Op.alloc 33, type := 0, pos := "field.go:144", after := #[], guard := none }) (by kernel_rfl) rfl (by rfl) fun K hK => ?_
        refine wp_alloc_el hB rfl ?_
        intro g wA hG hge hBA
        replace hB := hBA
        refine hK.out _ _ hB ?_
        clear hK K
        try simp only [Act.put, List.setIfInBounds_toArray, List.set_cons_zero, List.set_cons_succ]
        refine wpB_do (i := 5) (o := { dst := none, op := Op.store 33 (Operand.tmp 10) (Operand.tmp 42), type := 0, pos := "field.go:144", after := #[{ on := 4, ground := Ground.data }, { on := 3, ground := Ground.data }, { on := 3, ground := Ground.chain }, { on := 0, ground := Ground.phase }, { on := 1, ground := Ground.phase }, { on := 2, ground := Ground.phase }, { on := 3, ground := Ground.phase }, { on := 4, ground := Ground.phase }], guard := none }) (by kernel_rfl) rfl (by rfl) fun K hK => ?_
        refine wp_store_el (l := z4) (l2 := lm) hB hge _ _ rfl rfl rfl hG z4_el hm ?_
        intro wS hGS hBS
        replace hB := hBS
        refine hK.out _ _ hB ?_
        clear hK K
        try simp only [Act.put, List.setIfInBounds_toArray, List.set_cons_zero, List.set_cons_succ]
        refine wpB_done (by kernel_rfl) ?_
        go_wp2_with fail
        go_meet
        exact ⟨g, lm, rfl, hge, hm, pm, hGS, hB⟩
      · refine wp_alloc_el hB rfl ?_
        intro g wA hG hge hBA
        replace hB := hBA
        refine hK.out _ _ hB ?_
        clear hK K
        try simp only [Act.put, List.setIfInBounds_toArray, List.set_cons_zero, List.set_cons_succ]
        refine wpB_do (i := 3) (o := { dst := some 42, op := Op.call { callee := Callee.value (Operand.func 26), args := #[Operand.tmp 39, Operand.tmp 41], argTypes := #[33, 33] }, type := 33, pos := "field.go:144", after := #[{ on := 0, ground := Ground.data }, { on := 2, ground := Ground.data }, { on := 2, ground := Ground.chain }], guard := none }) (by kernel_rfl) rfl (by rfl) fun K hK => ?_
        go_simp
        refine (fmul_any _ _ l7 lq h7 hq rfl rfl _).mono ?_
        rintro e wm ⟨lm, rfl, hm, hem, bm⟩
        have pm := Pw.exp (p7.mul pq hem) (dn_add 10 40)
        replace hB := stepB hB bm
        try replace hG := hG.kept bm
        refine hK.out _ _ hB ?_
        clear hK K
        try simp only [Act.put, List.setIfInBounds_toArray, List.set_cons_zero, List.set_cons_succ]
        refine wpB_do (i := 5) (o := { dst := none, op := Op.store 33 (Operand.tmp 10) (Operand.tmp 42), type := 0, pos := "field.go:144", after := #[{ on := 4, ground := Ground.data }, { on := 3, ground := Ground.data }, { on := 3, ground := Ground.chain }, { on := 0, ground := Ground.phase }, { on := 1, ground := Ground.phase }, { on := 2, ground := Ground.phase }, { on := 3, ground := Ground.phase }, { on := 4, ground := Ground.phase }], guard := none }) (by kernel_rfl) rfl (by rfl) fun K hK => ?_
        refine wp_store_el (l := z4) (l2 := lm) hB hge _ _ rfl rfl rfl hG z4_el hm ?_
        intro wS hGS hBS
        replace hB := hBS
        refine hK.out _ _ hB ?_
        clear hK K
        try simp only [Act.put, List.setIfInBounds_toArray, List.set_cons_zero, List.set_cons_succ]
        refine wpB_done (by kernel_rfl) ?_
        go_wp2_with fail
        go_meet
        exact ⟨g, lm, rfl, hge, hm, pm, hGS, hB⟩
    · refine wp_alloc_el hB rfl ?_
      intro g wA hG hge hBA
      replace hB := hBA
      refine hK.out _ _ hB ?_
      clear hK K
      try simp only [Act.put, List.setIfInBounds_toArray, List.set_cons_zero, List.set_cons_succ]
      refine wpB_do (i := 2) (o := { dst := some 41, op := Op.call { callee := Callee.value (Operand.func 36), args := #[Operand.tmp 40, Operand.const (Value.int IntKind.i64 10)], argTypes := #[33, 3] }, type := 33, pos := "field.go:144", after := #[{ on := 1, ground := Ground.data }], guard := none }) (by kernel_rfl) rfl (by rfl) fun K hK => ?_
      go_simp
      refine (squares_any _ l9 10 _ h9 (by decide) rfl rfl _).mono ?_
      rintro e wq ⟨lq, rfl, hq, heq, bq⟩
      have pq := p9.sqs (n := 10) heq
      replace hB := stepB hB bq
      try replace hG := hG.kept bq
      refine hK.out _ _ hB ?_
      clear hK K
      try simp only [Act.put, List.setIfInBounds_toArray, List.set_cons_zero, List.set_cons_succ]
      refine wpB_do (i := 3) (o := { dst := some 42, op := Op.call { callee := Callee.value (Operand.func 26), args := #[Operand.tmp 39, Operand.tmp 41], argTypes := #[33, 33] }, type := 33, pos := "field.go:144", after := #[{ on := 0, ground := Ground.data }, { on := 2, ground := Ground.data }, { on := 2, ground := Ground.chain }], guard := none }) (by kernel_rfl) rfl (by rfl) fun K hK => ?_
      go_simp
      refine (fmul_any _ _ l7 lq h7 hq rfl rfl _).mono ?_
      rintro e wm ⟨lm, rfl, hm, hem, bm⟩
      have pm := Pw.exp (p7.mul pq hem) (dn_add 10 40)
      replace hB := stepB hB bm
      try replace hG := hG.kept bm
      refine hK.out _ _ hB ?_
      clear hK K
      try simp only [Act.put, List.setIfInBounds_toArray, List.set_cons_zero, List.set_cons_succ]
      refine wpB_do (i := 5) (o := { dst := none, op := Op.store 33 (Operand.tmp 10) (Operand.tmp 42), type := 0, pos := "field.go:144", after := #[{ on := 4, ground := Ground.data }, { on := 3, ground := Ground.data }, { on := 3, ground := Ground.chain }, { on := 0, ground := Ground.phase }, { on := 1, ground := Ground.phase }, { on := 2, ground := Ground.phase }, { on := 3, ground := Ground.phase }, { on := 4, ground := Ground.phase }], guard := none }) (by kernel_rfl) rfl (by rfl) fun K hK => ?_
      refine wp_store_el (l := z4) (l2 := lm) hB hge _ _ rfl rfl rfl hG z4_el hm ?_
      intro wS hGS hBS
      replace hB := hBS
      refine hK.out _ _ hB ?_
      clear hK K
      try simp only [Act.put, List.setIfInBounds_toArray, List.set_cons_zero, List.set_cons_succ]
      refine wpB_done (by kernel_rfl) ?_
      go_wp2_with fail
      go_meet
      exact ⟨g, lm, rfl, hge, hm, pm, hGS, hB⟩
  case rest =>
  obtain ⟨g10, l10, rfl, hge10, H10, P10, r10, bc10⟩ := hcut
  have h10 := H10.out
  have p10 := P10.out
  clear H10 P10
  replace r2 := r2.kept bc10
  replace r5 := r5.kept bc10
  replace r7 := r7.kept bc10
  replace r9 := r9.kept bc10
  replace hbw := stepB hbw bc10
  clear bc10
  rename World => W10
  clear r7
  clear r9
  go_upto_region 9 with fail
  go_cut [11] (fun v wx => ∃ (g : Nat) (l : List Nat), v = .pointer (some ⟨g, 0, none⟩) ∧ W10.heap.size ≤ g ∧ Hid (El4 l) ∧ Hid (Pw X (dn 100) l) ∧ RowAt .u64 33 g 4 (nI l) wx ∧ Below W10.heap.size W10 wx)
  case first =>
    have hB : Below W10.heap.size W10 W10.drew := (Below.refl _ _).drew
    refine wpB_begin (Below.refl W10.heap.size W10) (by kernel_rfl) ?_
    refine wpB_take (hb := hB) (i := 0) (oi := { dst := some 43, op := Op.load 33 (Operand.tmp 10), type := 33, pos := "field.go:145", after := #[], guard := none }) (v := ?_) rfl (by kernel_rfl) (by kernel_rfl) (by kernel_rfl) (by rfl) ?_ ?_
    rotate_left
    · intro W hW; refine Eq.trans (exec_load_row' 33 _ (by rfl) (by rfl) r10 hW _ Try.underlying33 rfl (elInfo h10)) ?_; with_reducible rfl
    try simp only [Act.put, List.setIfInBounds_toArray, List.set_cons_zero, List.set_cons_succ]
    refine wpB_take (hb := hB) (i := 1) (oi := { dst := some 44, op := Op.load 33 (Operand.tmp 10), type := 33, pos := "field.go:145", after := #[], guard := none }) (v := ?_) rfl (by kernel_rfl) (by kernel_rfl) (by kernel_rfl) (by rfl) ?_ ?_
    rotate_left
    · intro W hW; refine Eq.trans (exec_load_row' 33 _ (by rfl) (by rfl) r10 hW _ Try.underlying33 rfl (elInfo h10)) ?_; with_reducible rfl
    try simp only [Act.put, List.setIfInBounds_toArray, List.set_cons_zero, List.set_cons_succ]
    refine wpB_fork (i := 2) (j := 4) (oi := { dst := some 45, op := Op.call { callee := Callee.value (Operand.func 36), args := #[Operand.tmp 44, Operand.const (Value.int IntKind.i64 50)], argTypes := #[33, 3] }, type := 33, pos := "field.go:145", after := #[{ on := 1, ground := Ground.data }], guard := none }) (oj := { dst := some 11, op := Op.alloc 33, type := 0, pos := "field.go:145", after := #[], guard := none }) (by kernel_rfl) rfl rfl (by rfl) (by rfl) (fun K hK => ?_) (fun K hK => ?_)
    · go_simp
      refine (squares_any _ l10 50 _ h10 (by decide) rfl rfl _).mono ?_
      rintro e wq ⟨lq, rfl, hq, heq, bq⟩
      have pq := p10.sqs (n := 50) heq
      replace hB := stepB hB bq
      try replace hG := hG.kept bq
      refine hK.out _ _ hB ?_
      clear hK K
      try simp only [Act.put, List.setIfInBounds_toArray, List.set_cons_zero, List.set_cons_succ]
      refine wpB_fork (i := 3) (j := 4) (oi := { dst := some 46, op := Op.call { callee := Callee.value (Operand.func 26), args := #[Operand.tmp 43, Operand.tmp 45], argTypes := #[33, 33] }, type := 33, pos := "field.go:145", after := #[{ on := 0, ground := Ground.data }, { on := 2, ground := Ground.data }, { on := 2, ground := Ground.chain }], guard := none }) (oj := { dst := some 11, op := Op.alloc 33, type := 0, pos := "field.go:145", after := #[], guard := none }) (by kernel_rfl) rfl rfl (by rfl) (by rfl) (fun K hK => ?_) (fun K hK => ?_)
      · go_simp
        refine (fmul_any _ _ l10 lq h10 hq rfl rfl _).mono ?_
        rintro e wm ⟨lm, rfl, hm, hem, bm⟩
        have pm := Pw.exp (p10.mul pq hem) (dn_add 50 50)
        replace hB := stepB hB bm
        try replace hG := hG.kept bm
        refine hK.out _ _ hB ?_
        clear hK K
        try simp only [Act.put, List.setIfInBounds_toArray, List.set_cons_zero, List.set_cons_succ]
        refine wpB_do (i := 4) (o := { dst := some 11, op := Op.alloc 33, type := 0, pos := "field.go:145", after := #[], guard := none }) (by kernel_rfl) rfl (by rfl) fun K hK => ?_
        refine wp_alloc_el hB rfl ?_
        intro g wA hG hge hBA
        replace hB := hBA
        refine hK.out _ _ hB ?_
        clear hK K
        try simp only [Act.put, List.setIfInBounds_toArray, List.set_cons_zero, List.set_cons_succ]
        refine wpB_do (i := 5) (o := { dst := none, op := Op.store 33 (Operand.tmp 11) (Operand.tmp 46), type := 0, pos := "field.go:145", after := #[{ on := 4, ground := Ground.data }, { on := 3, ground := Ground.data }, { on := 3, ground := Ground.chain }, { on := 0, ground := Ground.phase }, { on := 1, ground := Ground.phase }, { on := 2, ground := Ground.phase }, { on := 3, ground := Ground.phase }, { on := 4, ground := Ground.phase }], guard := none }) (by kernel_rfl) rfl (by rfl) fun K hK => ?_
        refine wp_store_el (l := z4) (l2 := lm) hB hge _ _ rfl rfl rfl hG z4_el hm ?_
        intro wS hGS hBS
        replace hB := hBS
        refine hK.out _ _ hB ?_
        clear hK K
        try simp only [Act.put, List.setIfInBounds_toArray, List.set_cons_zero, List.set_cons_succ]
        refine wpB_done (by kernel_rfl) ?_
        go_wp2_with fail
        go_meet
        exact ⟨g, lm, rfl, hge, hm, pm, hGS, hB⟩
      · refine wp_alloc_el hB rfl ?_
        intro g wA hG hge hBA
        replace hB := hBA
        refine hK.out _ _ hB ?_
        clear hK K
        try simp only [Act.put, List.setIfInBounds_toArray, List.set_cons_zero, List.set_cons_succ]
        refine wpB_do (i := 3) (o := { dst := some 46, op := Op.call { callee := Callee.value (Operand.func 26), args := #[Operand.tmp 43, Operand.tmp 45], argTypes := #[33, 33] }, type := 33, pos := "field.go:145", after := #[{ on := 0, ground := Ground.data }, { on := 2, ground := Ground.data }, { on := 2, ground := Ground.chain }], guard := none }) (by kernel_rfl) rfl (by rfl) fun K hK => ?_
        go_simp
        refine (fmul_any _ _ l10 lq h10 hq rfl rfl _).mono ?_
        rintro e wm ⟨lm, rfl, hm, hem, bm⟩
        have pm := Pw.exp (p10.mul pq hem) (dn_add 50 50)
        replace hB := stepB hB bm
        try replace hG := hG.kept bm
        refine hK.out _ _ hB ?_
        clear hK K
        try simp only [Act.put, List.setIfInBounds_toArray, List.set_cons_zero, List.set_cons_succ]
        refine wpB_do (i := 5) (o := { dst := none, op := Op.store 33 (Operand.tmp 11) (Operand.tmp 46), type := 0, pos := "field.go:145", after := #[{ on := 4, ground := Ground.data }, { on := 3, ground := Ground.data }, { on := 3, ground := Ground.chain }, { on := 0, ground := Ground.phase }, { on := 1, ground := Ground.phase }, { on := 2, ground := Ground.phase }, { on := 3, ground := Ground.phase }, { on := 4, ground := Ground.phase }], guard := none }) (by kernel_rfl) rfl (by rfl) fun K hK => ?_
        refine wp_store_el (l := z4) (l2 := lm) hB hge _ _ rfl rfl rfl hG z4_el hm ?_
        intro wS hGS hBS
        replace hB := hBS
        refine hK.out _ _ hB ?_
        clear hK K
        try simp only [Act.put, List.setIfInBounds_toArray, List.set_cons_zero, List.set_cons_succ]
        refine wpB_done (by kernel_rfl) ?_
        go_wp2_with fail
        go_meet
        exact ⟨g, lm, rfl, hge, hm, pm, hGS, hB⟩
    · refine wp_alloc_el hB rfl ?_
      intro g wA hG hge hBA
      replace hB := hBA
      refine hK.out _ _ hB ?_
      clear hK K
      try simp only [Act.put, List.setIfInBounds_toArray, List.set_cons_zero, List.set_cons_succ]
      refine wpB_do (i := 2) (o := { dst := some 45, op := Op.call { callee := Callee.value (Operand.func 36), args := #[Operand.tmp 44, Operand.const (Value.int IntKind.i64 50)], argTypes := #[33, 3] }, type := 33, pos := "field.go:145", after := #[{ on := 1, ground := Ground.data }], guard := none }) (by kernel_rfl) rfl (by rfl) fun K hK => ?_
      go_simp
      refine (squares_any _ l10 50 _ h10 (by decide) rfl rfl _).mono ?_
      rintro e wq ⟨lq, rfl, hq, heq, bq⟩
      have pq := p10.sqs (n := 50) heq
      replace hB := stepB hB bq
      try replace hG := hG.kept bq
      refine hK.out _ _ hB ?_
      clear hK K
      try simp only [Act.put, List.setIfInBounds_toArray, List.set_cons_zero, List.set_cons_succ]
      refine wpB_do (i := 3) (o := { dst := some 46, op := Op.call { callee := Callee.value (Operand.func 26), args := #[Operand.tmp 43, Operand.tmp 45], argTypes := #[33, 33] }, type := 33, pos := "field.go:145", after := #[{ on := 0, ground := Ground.data }, { on := 2, ground := Ground.data }, { on := 2, ground := Ground.chain }], guard := none }) (by kernel_rfl) rfl (by rfl) fun K hK => ?_
      go_simp
      refine (fmul_any _ _ l10 lq h10 hq rfl rfl _).mono ?_
      rintro e wm ⟨lm, rfl, hm, hem, bm⟩
      have pm := Pw.exp (p10.mul pq hem) (dn_add 50 50)
      replace hB := stepB hB bm
      try replace hG := hG.kept bm
      refine hK.out _ _ hB ?_
      clear hK K
      try simp only [Act.put, List.setIfInBounds_toArray, List.set_cons_zero, List.set_cons_succ]
      refine wpB_do (i := 5) (o := { dst := none, op := Op.store 33 (Operand.tmp 11) (Operand.tmp 46), type := 0, pos := "field.go:145", after := #[{ on := 4, ground := Ground.data }, { on := 3, ground := Ground.data }, { on := 3, ground := Ground.chain }, { on := 0, ground := Ground.phase }, { on := 1, ground := Ground.phase }, { on := 2, ground := Ground.phase }, { on := 3, ground := Ground.phase }, { on := 4, ground := Ground.phase }], guard := none }) (by kernel_rfl) rfl (by rfl) fun K hK => ?_
      refine wp_store_el (l := z4) (l2 := lm) hB hge _ _ rfl rfl rfl hG z4_el hm ?_
      intro wS hGS hBS
      replace hB := hBS
      refine hK.out _ _ hB ?_
      clear hK K
      try simp only [Act.put, List.setIfInBounds_toArray, List.set_cons_zero, List.set_cons_succ]
      refine wpB_done (by kernel_rfl) ?_
      go_wp2_with fail
      go_meet
      exact ⟨g, lm, rfl, hge, hm, pm, hGS, hB⟩
  case rest =>
  obtain ⟨g11, l11, rfl, hge11, H11, P11, r11, bc11⟩ := hcut
  have h11 := H11.out
  have p11 := P11.out
  clear H11 P11
  replace r2 := r2.kept bc11
  replace r5 := r5.kept bc11
  replace r10 := r10.kept bc11
  replace hbw := stepB hbw bc11
  clear bc11
  rename World => W11
  go_upto_region 10 with fail
  go_cut [12] (fun v wx => ∃ (g : Nat) (l : List Nat), v = .pointer (some ⟨g, 0, none⟩) ∧ W11.heap.size ≤ g ∧ Hid (El4 l) ∧ Hid (Pw X (dn 200) l) ∧ RowAt .u64 33 g 4 (nI l) wx ∧ Below W11.heap.size W11 wx)
  case first =>
    have hB : Below W11.heap.size W11 W11.drew := (Below.refl _ _).drew
    refine wpB_begin (Below.refl W11.heap.size W11) (by kernel_rfl) ?_
    refine wpB_take (hb := hB) (i := 0) (oi := { dst := some 47, op := Op.load 33 (Operand.tmp 11), type := 33, pos := "field.go:146", after := #[], guard := none }) (v := ?_) rfl (by kernel_rfl) (by kernel_rfl) (by kernel_rfl) (by rfl) ?_ ?_
    rotate_left
    · intro W hW; refine Eq.trans (exec_load_row' 33 _ (by rfl) (by rfl) r11 hW _ Try.underlying33 rfl (elInfo h11)) ?_; with_reducible rfl
    try simp only [Act.put, List.setIfInBounds_toArray, List.set_cons_zero, List.set_cons_succ]
    refine wpB_take (hb := hB) (i := 1) (oi := { dst := some 48, op := Op.load 33 (Operand.tmp 11), type := 33, pos := "field.go:146", after := #[], guard := none }) (v := ?_) rfl (by kernel_rfl) (by kernel_rfl) (by kernel_rfl) (by rfl) ?_ ?_
    rotate_left
    · intro W hW; refine Eq.trans (exec_load_row' 33 _ (by rfl) (by rfl) r11 hW _ Try.underlying33 rfl (elInfo h11)) ?_; with_reducible rfl
    try simp only [Act.put, List.setIfInBounds_toArray, List.set_cons_zero, List.set_cons_succ]
    refine wpB_fork (i := 2) (j := 4) (oi := { dst := some 49, op := Op.call { callee := Callee.value (Operand.func 36), args := #[Operand.tmp 48, Operand.const (Value.int IntKind.i64 100)], argTypes := #[33, 3] }, type := 33, pos := "field.go:146", after := #[{ on := 1, ground := Ground.data }], guard := none }) (oj := { dst := some 12, op := Op.alloc 33, type := 0, pos := "field.go:146", after := #[], guard := none }) (by kernel_rfl) rfl rfl (by rfl) (by rfl) (fun K hK => ?_) (fun K hK => ?_)
    · go_simp
      refine (squares_any _ l11 100 _ h11 (by decide) rfl rfl _).mono ?_
      rintro e wq ⟨lq, rfl, hq, heq, bq⟩
      have pq := p11.sqs (n := 100) heq
      replace hB := stepB hB bq
      try replace hG := hG.kept bq
      refine hK.out _ _ hB ?_
      clear hK K
      try simp only [Act.put, List.setIfInBounds_toArray, List.set_cons_zero, List.set_cons_succ]
      refine wpB_fork (i := 3) (j := 4) (oi := { dst := some 50, op := Op.call { callee := Callee.value (Operand.func 26), args := #[Operand.tmp 47, Operand.tmp 49], argTypes := #[33, 33] }, type := 33, pos := "field.go:146", after := #[{ on := 0, ground := Ground.data }, { on := 2, ground := Ground.data }, { on := 2, ground := Ground.chain }], guard := none }) (oj := { dst := some 12, op := Op.alloc 33, type := 0, pos := "field.go:146", after := #[], guard := none }) (by kernel_rfl) rfl rfl (by rfl) (by rfl) (fun K hK => ?_) (fun K hK => ?_)
      · go_simp
        refine (fmul_any _ _ l11 lq h11 hq rfl rfl _).mono ?_
        rintro e wm ⟨lm, rfl, hm, hem, bm⟩
        have pm := Pw.exp (p11.mul pq hem) (dn_add 100 100)
        replace hB := stepB hB bm
        try replace hG := hG.kept bm
        refine hK.out _ _ hB ?_
        clear hK K
        try simp only [Act.put, List.setIfInBounds_toArray, List.set_cons_zero, List.set_cons_succ]
        refine wpB_do (i := 4) (o := { dst := some 12, op := Op.alloc 33, type := 0, pos := "field.go:146", after := #[], guard := none }) (by kernel_rfl) rfl (by rfl) fun K hK => ?_
        refine wp_alloc_el hB rfl ?_
        intro g wA hG hge hBA
        replace hB := hBA
        refine hK.out _ _ hB ?_
        clear hK K
        try simp only [Act.put, List.setIfInBounds_toArray, List.set_cons_zero, List.set_cons_succ]
        refine wpB_do (i := 5) (o := { dst := none, op := Op.store 33 (Operand.tmp 12) (Operand.tmp 50), type := 0, pos := "field.go:146", after := #[{ on := 4, ground := Ground.data }, { on := 3, ground := Ground.data }, { on := 3, ground := Ground.chain }, { on := 0, ground := Ground.phase }, { on := 1, ground := Ground.phase }, { on := 2, ground := Ground.phase }, { on := 3, ground := Ground.phase }, { on := 4, ground := Ground.phase }], guard := none }) (by kernel_rfl) rfl (by rfl) fun K hK => ?_
        refine wp_store_el (l := z4) (l2 := lm) hB hge _ _ rfl rfl rfl hG z4_el hm ?_
        intro wS hGS hBS
        replace hB := hBS
        refine hK.out _ _ hB ?_
        clear hK K
        try simp only [Act.put, List.setIfInBounds_toArray, List.set_cons_zero, List.set_cons_succ]
        refine wpB_done (by kernel_rfl) ?_
        go_wp2_with fail
        go_meet
        exact ⟨g, lm, rfl, hge, hm, pm, hGS, hB⟩
      · refine wp_alloc_el hB rfl ?_
        intro g wA hG hge hBA
        replace hB := hBA
        refine hK.out _ _ hB ?_
        clear hK K
        try simp only [Act.put, List.setIfInBounds_toArray, List.set_cons_zero, List.set_cons_succ]
        refine wpB_do (i := 3) (o := { dst := some 50, op := Op.call { callee := Callee.value (Operand.func 26), args := #[Operand.tmp 47, Operand.tmp 49], argTypes := #[33, 33] }, type := 33, pos := "field.go:146", after := #[{ on := 0, ground := Ground.data }, { on := 2, ground := Ground.data }, { on := 2, ground := Ground.chain }], guard := none }) (by kernel_rfl) rfl (by rfl) fun K hK => ?_
        go_simp
        refine (fmul_any _ _ l11 lq h11 hq rfl rfl _).mono ?_
        rintro e wm ⟨lm, rfl, hm, hem, bm⟩
        have pm := Pw.exp (p11.mul pq hem) (dn_add 100 100)
        replace hB := stepB hB bm
        try replace hG := hG.kept bm
        refine hK.out _ _ hB ?_
        clear hK K
        try simp only [Act.put, List.setIfInBounds_toArray, List.set_cons_zero, List.set_cons_succ]
        refine wpB_do (i := 5) (o := { dst := none, op := Op.store 33 (Operand.tmp 12) (Operand.tmp 50), type := 0, pos := "field.go:146", after := #[{ on := 4, ground := Ground.data }, { on := 3, ground := Ground.data }, { on := 3, ground := Ground.chain }, { on := 0, ground := Ground.phase }, { on := 1, ground := Ground.phase }, { on := 2, ground := Ground.phase }, { on := 3, ground := Ground.phase }, { on := 4, ground := Ground.phase }], guard := none }) (by kernel_rfl) rfl (by rfl) fun K hK => ?_
        refine wp_store_el (l := z4) (l2 := lm) hB hge _ _ rfl rfl rfl hG z4_el hm ?_
        intro wS hGS hBS
        replace hB := hBS
        refine hK.out _ _ hB ?_
        clear hK K
        try simp only [Act.put, List.setIfInBounds_toArray, List.set_cons_zero, List.set_cons_succ]
        refine wpB_done (by kernel_rfl) ?_
        go_wp2_with fail
        go_meet
        exact ⟨g, lm, rfl, hge, hm, pm, hGS, hB⟩
    · refine wp_alloc_el hB rfl ?_
      intro g wA hG hge hBA
      replace hB := hBA
      refine hK.out _ _ hB ?_
      clear hK K
      try simp only [Act.put, List.setIfInBounds_toArray, List.set_cons_zero, List.set_cons_succ]
      refine wpB_do (i := 2) (o := { dst := some 49, op := Op.call { callee := Callee.value (Operand.func 36), args := #[Operand.tmp 48, Operand.const (Value.int IntKind.i64 100)], argTypes := #[33, 3] }, type := 33, pos := "field.go:146", after := #[{ on := 1, ground := Ground.data }], guard := none }) (by kernel_rfl) rfl (by rfl) fun K hK => ?_
      go_simp
      refine (squares_any _ l11 100 _ h11 (by decide) rfl rfl _).mono ?_
      rintro e wq ⟨lq, rfl, hq, heq, bq⟩
      have pq := p11.sqs (n := 100) heq
      replace hB := stepB hB bq
      try replace hG := hG.kept bq
      refine hK.out _ _ hB ?_
      clear hK K
      try simp only [Act.put, List.setIfInBounds_toArray, List.set_cons_zero, List.set_cons_succ]
      refine wpB_do (i := 3) (o := { dst := some 50, op := Op.call { callee := Callee.value (Operand.func 26), args := #[Operand.tmp 47, Operand.tmp 49], argTypes := #[33, 33] }, type := 33, pos := "field.go:146", after := #[{ on := 0, ground := Ground.data }, { on := 2, ground := Ground.data }, { on := 2, ground := Ground.chain }], guard := none }) (by kernel_rfl) rfl (by rfl) fun K hK => ?_
      go_simp
      refine (fmul_any _ _ l11 lq h11 hq rfl rfl _).mono ?_
      rintro e wm ⟨lm, rfl, hm, hem, bm⟩
      have pm := Pw.exp (p11.mul pq hem) (dn_add 100 100)
      replace hB := stepB hB bm
      try replace hG := hG.kept bm
      refine hK.out _ _ hB ?_
      clear hK K
      try simp only [Act.put, List.setIfInBounds_toArray, List.set_cons_zero, List.set_cons_succ]
      refine wpB_do (i := 5) (o := { dst := none, op := Op.store 33 (Operand.tmp 12) (Operand.tmp 50), type := 0, pos := "field.go:146", after := #[{ on := 4, ground := Ground.data }, { on := 3, ground := Ground.data }, { on := 3, ground := Ground.chain }, { on := 0, ground := Ground.phase }, { on := 1, ground := Ground.phase }, { on := 2, ground := Ground.phase }, { on := 3, ground := Ground.phase }, { on := 4, ground := Ground.phase }], guard := none }) (by kernel_rfl) rfl (by rfl) fun K hK => ?_
      refine wp_store_el (l := z4) (l2 := lm) hB hge _ _ rfl rfl rfl hG z4_el hm ?_
      intro wS hGS hBS
      replace hB := hBS
      refine hK.out _ _ hB ?_
      clear hK K
      try simp only [Act.put, List.setIfInBounds_toArray, List.set_cons_zero, List.set_cons_succ]
      refine wpB_done (by kernel_rfl) ?_
      go_wp2_with fail
      go_meet
      exact ⟨g, lm, rfl, hge, hm, pm, hGS, hB⟩
  case rest =>
  obtain ⟨g12, l12, rfl, hge12, H12, P12, r12, bc12⟩ := hcut
  have h12 := H12.out
  have p12 := P12.out
  clear H12 P12
  replace r2 := r2.kept bc12
  replace r5 := r5.kept bc12
  replace r10 := r10.kept bc12
  replace r11 := r11.kept bc12
  replace hbw := stepB hbw bc12
  clear bc12
  rename World => W12
  clear r11
  go_upto_region 11 with fail
  go_cut [13] (fun v wx => ∃ (g : Nat) (l : List Nat), v = .pointer (some ⟨g, 0, none⟩) ∧ W12.heap.size ≤ g ∧ Hid (El4 l) ∧ Hid (Pw X (dn 250) l) ∧ RowAt .u64 33 g 4 (nI l) wx ∧ Below W12.heap.size W12 wx)
  case first =>
    have hB : Below W12.heap.size W12 W12.drew := (Below.refl _ _).drew
    refine wpB_begin (Below.refl W12.heap.size W12) (by kernel_rfl) ?_
    refine wpB_take (hb := hB) (i := 0) (oi := { dst := some 51, op := Op.load 33 (Operand.tmp 10), type := 33, pos := "field.go:147", after := #[], guard := none }) (v := ?_) rfl (by kernel_rfl) (by kernel_rfl) (by kernel_rfl) (by rfl) ?_ ?_
    rotate_left
    · intro W hW; refine Eq.trans (exec_load_row' 33 _ (by rfl) (by rfl) r10 hW _ Try.underlying33 rfl (elInfo h10)) ?_; with_reducible rfl
    try simp only [Act.put, List.setIfInBounds_toArray, List.set_cons_zero, List.set_cons_succ]
    refine wpB_take (hb := hB) (i := 1) (oi := { dst := some 52, op := Op.load 33 (Operand.tmp 12), type := 33, pos := "field.go:147", after := #[], guard := none }) (v := ?_) rfl (by kernel_rfl) (by kernel_rfl) (by kernel_rfl) (by rfl) ?_ ?_
    rotate_left
    · intro W hW; refine Eq.trans (exec_load_row' 33 _ (by rfl) (by rfl) r12 hW _ Try.underlying33 rfl (elInfo h12)) ?_; with_reducible rfl
    try simp only [Act.put, List.setIfInBounds_toArray, List.set_cons_zero, List.set_cons_succ]
    refine wpB_fork (i := 2) (j := 4) (oi := { dst := some 53, op := Op.call { callee := Callee.value (Operand.func 36), args := #[Operand.tmp 52, Operand.const (Value.int IntKind.i64 50)], argTypes := #[33, 3] }, type := 33, pos := "field.go:147", after := #[{ on := 1, ground := Ground.data }], guard := none }) (oj := { dst := some 13, op := Op.alloc 33, type := 0, pos := "field.go:147", after := #[], guard := none }) (by kernel_rfl) rfl rfl (by rfl) (by rfl) (fun K hK => ?_) (fun K hK => ?_)
    · go_simp
      refine (squares_any _ l12 50 _ h12 (by decide) rfl rfl _).mono ?_
      rintro e wq ⟨lq, rfl, hq, heq, bq⟩
      have pq := p12.sqs (n := 50) heq
      replace hB := stepB hB bq
      try replace hG := hG.kept bq
      refine hK.out _ _ hB ?_
      clear hK K
      try simp only [Act.put, List.setIfInBounds_toArray, List.set_cons_zero, List.set_cons_succ]
      refine wpB_fork (i := 3) (j := 4) (oi := { dst := some 54, op := Op.call { callee := Callee.value (Operand.func 26), args := #[Operand.tmp 51, Operand.tmp 53], argTypes := #[33, 33] }, type := 33, pos := "field.go:147", after := #[{ on := 0, ground := Ground.data }, { on := 2, ground := Ground.data }, { on := 2, ground := Ground.chain }], guard := none }) (oj := { dst := some 13, op := Op.alloc 33, type := 0, pos := "field.go:147", after := #[], guard := none }) (by kernel_rfl) rfl rfl (by rfl) (by rfl) (fun K hK => ?_) (fun K hK => ?_)
      · go_simp
        refine (fmul_any _ _ l10 lq h10 hq rfl rfl _).mono ?_
        rintro e wm ⟨lm, rfl, hm, hem, bm⟩
        have pm := Pw.exp (p10.mul pq hem) (dn_add 50 200)
        replace hB := stepB hB bm
        try replace hG := hG.kept bm
        refine hK.out _ _ hB ?_
        clear hK K
        try simp only [Act.put, List.setIfInBounds_toArray, List.set_cons_zero, List.set_cons_succ]
        refine wpB_do (i := 4) (o := { dst := some 13, op := Op.alloc 33, type := 0, pos := "field.go:147", after := #[], guard := none }) (by kernel_rfl) rfl (by rfl) fun K hK => ?_
        refine wp_alloc_el hB rfl ?_
        intro g wA hG hge hBA
        replace hB := hBA
        refine hK.out _ _ hB ?_
        clear hK K
        try simp only [Act.put, List.setIfInBounds_toArray, List.set_cons_zero, List.set_cons_succ]
        refine wpB_do (i := 5) (o := { dst := none, op := Op.store 33 (Operand.tmp 13) (Operand.tmp 54), type := 0, pos := "field.go:147", after := #[{ on := 4, ground := Ground.data }, { on := 3, ground := Ground.data }, { on := 3, ground := Ground.chain }, { on := 0, ground := Ground.phase }, { on := 1, ground := Ground.phase }, { on := 2, ground := Ground.phase }, { on := 3, ground := Ground.phase }, { on := 4, ground := Ground.phase }], guard := none }) (by kernel_rfl) rfl (by rfl) fun K hK => ?_
        refine wp_store_el (l := z4) (l2 := lm) hB hge _ _ rfl rfl rfl hG z4_el hm ?_
        intro wS hGS hBS
        replace hB := hBS
        refine hK.out _ _ hB ?_
        clear hK K
        try simp only [Act.put, List.setIfInBounds_toArray, List.set_cons_zero, List.set_cons_succ]
        refine wpB_done (by kernel_rfl) ?_
        go_wp2_with fail
        go_meet
        exact ⟨g, lm, rfl, hge, hm, pm, hGS, hB⟩
      · refine wp_alloc_el hB rfl ?_
        intro g wA hG hge hBA
        replace hB := hBA
        refine hK.out _ _ hB ?_
        clear hK K
        try simp only [Act.put, List.setIfInBounds_toArray, List.set_cons_zero, List.set_cons_succ]
        refine wpB_do (i := 3) (o := { dst := some 54, op := Op.call { callee := Callee.value (Operand.func 26), args := #[Operand.tmp 51, Operand.tmp 53], argTypes := #[33, 33] }, type := 33, pos := "field.go:147", after := #[{ on := 0, ground := Ground.data }, { on := 2, ground := Ground.data }, { on := 2, ground := Ground.chain }], guard := none }) (by kernel_rfl) rfl (by rfl) fun K hK => ?_
        go_simp
        refine (fmul_any _ _ l10 lq h10 hq rfl rfl _).mono ?_
        rintro e wm ⟨lm, rfl, hm, hem, bm⟩
        have pm := Pw.exp (p10.mul pq hem) (dn_add 50 200)
        replace hB := stepB hB bm
        try replace hG := hG.kept bm
        refine hK.out _ _ hB ?_
        clear hK K
        try simp only [Act.put, List.setIfInBounds_toArray, List.set_cons_zero, List.set_cons_succ]
        refine wpB_do (i := 5) (o := { dst := none, op := Op.store 33 (Operand.tmp 13) (Operand.tmp 54), type := 0, pos := "field.go:147", after := #[{ on := 4, ground := Ground.data }, { on := 3, ground := Ground.data }, { on := 3, ground := Ground.chain }, { on := 0, ground := Ground.phase }, { on := 1, ground := Ground.phase }, { on := 2, ground := Ground.phase }, { on := 3, ground := Ground.phase }, { on := 4, ground := Ground.phase }], guard := none }) (by kernel_rfl) rfl (by rfl) fun K hK => ?_
        refine wp_store_el (l := z4) (l2 := lm) hB hge _ _ rfl rfl rfl hG z4_el hm ?_
        intro wS hGS hBS
        replace hB := hBS
        refine hK.out _ _ hB ?_
        clear hK K
        try simp only [Act.put, List.setIfInBounds_toArray, List.set_cons_zero, List.set_cons_succ]
        refine wpB_done (by kernel_rfl) ?_
        go_wp2_with fail
        go_meet
        exact ⟨g, lm, rfl, hge, hm, pm, hGS, hB⟩
    · refine wp_alloc_el hB rfl ?_
      intro g wA hG hge hBA
      replace hB := hBA
      refine hK.out _ _ hB ?_
      clear hK K
      try simp only [Act.put, List.setIfInBounds_toArray, List.set_cons_zero, List.set_cons_succ]
      refine wpB_do (i := 2) (o := { dst := some 53, op := Op.call { callee := Callee.value (Operand.func 36), args := #[Operand.tmp 52, Operand.const (Value.int IntKind.i64 50)], argTypes := #[33, 3] }, type := 33, pos := "field.go:147", after := #[{ on := 1, ground := Ground.data }], guard := none }) (by kernel_rfl) rfl (by rfl) fun K hK => ?_
      go_simp
      refine (squares_any _ l12 50 _ h12 (by decide) rfl rfl _).mono ?_
      rintro e wq ⟨lq, rfl, hq, heq, bq⟩
      have pq := p12.sqs (n := 50) heq
      replace hB := stepB hB bq
      try replace hG := hG.kept bq
      refine hK.out _ _ hB ?_
      clear hK K
      try simp only [Act.put, List.setIfInBounds_toArray, List.set_cons_zero, List.set_cons_succ]
      refine wpB_do (i := 3) (o := { dst := some 54, op := Op.call { callee := Callee.value (Operand.func 26), args := #[Operand.tmp 51, Operand.tmp 53], argTypes := #[33, 33] }, type := 33, pos := "field.go:147", after := #[{ on := 0, ground := Ground.data }, { on := 2, ground := Ground.data }, { on := 2, ground := Ground.chain }], guard := none }) (by kernel_rfl) rfl (by rfl) fun K hK => ?_
      go_simp
      refine (fmul_any _ _ l10 lq h10 hq rfl rfl _).mono ?_
      rintro e wm ⟨lm, rfl, hm, hem, bm⟩
      have pm := Pw.exp (p10.mul pq hem) (dn_add 50 200)
      replace hB := stepB hB bm
      try replace hG := hG.kept bm
      refine hK.out _ _ hB ?_
      clear hK K
      try simp only [Act.put, List.setIfInBounds_toArray, List.set_cons_zero, List.set_cons_succ]
      refine wpB_do (i := 5) (o := { dst := none, op := Op.store 33 (Operand.tmp 13) (Operand.tmp 54), type := 0, pos := "field.go:147", after := #[{ on := 4, ground := Ground.data }, { on := 3, ground := Ground.data }, { on := 3, ground := Ground.chain }, { on := 0, ground := Ground.phase }, { on := 1, ground := Ground.phase }, { on := 2, ground := Ground.phase }, { on := 3, ground := Ground.phase }, { on := 4, ground := Ground.phase }], guard := none }) (by kernel_rfl) rfl (by rfl) fun K hK => ?_
      refine wp_store_el (l := z4) (l2 := lm) hB hge _ _ rfl rfl rfl hG z4_el hm ?_
      intro wS hGS hBS
      replace hB := hBS
      refine hK.out _ _ hB ?_
      clear hK K
      try simp only [Act.put, List.setIfInBounds_toArray, List.set_cons_zero, List.set_cons_succ]
      refine wpB_done (by kernel_rfl) ?_
      go_wp2_with fail
      go_meet
      exact ⟨g, lm, rfl, hge, hm, pm, hGS, hB⟩
  case rest =>
  obtain ⟨g13, l13, rfl, hge13, H13, P13, r13, bc13⟩ := hcut
  have h13 := H13.out
  have p13 := P13.out
  clear H13 P13
  replace r2 := r2.kept bc13
  replace r5 := r5.kept bc13
  replace r10 := r10.kept bc13
  replace r12 := r12.kept bc13
  replace hbw := stepB hbw bc13
  clear bc13
  rename World => W13
  clear r10
  clear r12
  have hg2 := r2.lt
  go_wp2_with fail
  refine wpE_begin 4 (by kernel_rfl) ?_
  refine wpE_take (i := 0) (oi := { dst := some 55, op := Op.load 33 (Operand.tmp 5), type := 33, pos := "field.go:148", after := #[], guard := none }) (v := ?_) rfl (by decide) (by kernel_rfl) (by kernel_rfl) (by kernel_rfl) (by kernel_rfl) (by rfl) ?_ ?_
  rotate_left
  · intro W hW; refine Eq.trans (exec_load_row 33 _ (by rfl) (by rfl) r5 hW _ Try.underlying33 rfl (elInfo h5)) ?_; with_reducible rfl
  try simp only [Act.put, List.setIfInBounds_toArray, List.set_cons_zero, List.set_cons_succ]
  refine wpE_take (i := 1) (oi := { dst := some 56, op := Op.load 33 (Operand.tmp 13), type := 33, pos := "field.go:148", after := #[], guard := none }) (v := ?_) rfl (by decide) (by kernel_rfl) (by kernel_rfl) (by kernel_rfl) (by kernel_rfl) (by rfl) ?_ ?_
  rotate_left
  · intro W hW; refine Eq.trans (exec_load_row 33 _ (by rfl) (by rfl) r13 hW _ Try.underlying33 rfl (elInfo h13)) ?_; with_reducible rfl
  try simp only [Act.put, List.setIfInBounds_toArray, List.set_cons_zero, List.set_cons_succ]
  refine wpE_do (i := 2) (o := { dst := some 57, op := Op.call { callee := Callee.value (Operand.func 36), args := #[Operand.tmp 56, Operand.const (Value.int IntKind.i64 5)], argTypes := #[33, 3] }, type := 33, pos := "field.go:148", after := #[{ on := 1, ground := Ground.data }], guard := none }) (by kernel_rfl) rfl (by rfl) fun K hK => ?_
  go_simp
  refine (squares_any _ l13 5 _ h13 (by decide) rfl rfl _).mono ?_
  rintro e wq ⟨lq, rfl, hq, heq, bq⟩
  have pq := p13.sqs (n := 5) heq
  refine hK.out _ _ bq ?_
  clear hK K
  try simp only [Act.put, List.setIfInBounds_toArray, List.set_cons_zero, List.set_cons_succ]
  refine wpE_do (i := 3) (o := { dst := some 58, op := Op.call { callee := Callee.value (Operand.func 26), args := #[Operand.tmp 55, Operand.tmp 57], argTypes := #[33, 33] }, type := 33, pos := "field.go:148", after := #[{ on := 0, ground := Ground.data }, { on := 2, ground := Ground.data }, { on := 2, ground := Ground.chain }], guard := none }) (by kernel_rfl) rfl (by rfl) fun K hK => ?_
  go_simp
  refine (fmul_any _ _ l5 lq h5 hq rfl rfl _).mono ?_
  rintro e wm ⟨lm, rfl, hm, hem, bm⟩
  have pm := Pw.exp (p5.mul pq hem) dn_inv
  refine hK.out _ _ bm ?_
  clear hK K
  try simp only [Act.put, List.setIfInBounds_toArray, List.set_cons_zero, List.set_cons_succ]
  refine wpE_last (o := { dst := none, op := Op.store 33 (Operand.tmp 2) (Operand.tmp 58), type := 0, pos := "field.go:148", after := #[{ on := 3, ground := Ground.data }, { on := 3, ground := Ground.chain }, { on := 0, ground := Ground.phase }, { on := 1, ground := Ground.phase }, { on := 2, ground := Ground.phase }, { on := 3, ground := Ground.phase }], guard := none }) (by kernel_rfl) (by kernel_rfl) rfl (by rfl) fun K hK => ?_
  refine wp_store_row 33 _ _ rfl (nI lm) rfl rfl ((r2.drew.kept bq).kept bm) (by rw [z4_el.len, hm.len]) (elInfo z4_el) ?_
  intro wS rS hwS
  refine hK.out _ _ ?_
  clear hK K
  try simp only [Act.put, List.setIfInBounds_toArray, List.set_cons_zero, List.set_cons_succ]
  go_wp2_with fail
  refine bodyPost_row (p := 2) (ty := 33) rfl rfl rfl rS Try.underlying33 rfl (elInfo hm) ?_
  exact ⟨lm, rfl, hm, pm.told HX.out, hwS.below _ _ (by omega) (stepB (stepB hbw.drew bq) bm)⟩
end Go.Proofs.Ythokfcmnijpkhab
