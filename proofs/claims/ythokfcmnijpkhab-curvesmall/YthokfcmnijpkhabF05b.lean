/- What differences in four words, folding, sums, turning round and rests answer: contracts of package field, second part. -/
import Derived.Test.YthokfcmnijpkhabF05a
namespace Go.Proofs.Ythokfcmnijpkhab
open Go.ChangeShapes Go.WideShapes Go.ChangeAt Go.RowKit
set_option linter.unusedSimpArgs false
set_option linter.unusedVariables false

set_option maxRecDepth 100000 in
set_option maxHeartbeats 2000000 in
theorem take_any (A B : Array Value) (a b : List Nat) (ha : El4 a) (hb : El4 b) (hA : A = ((nI a).map (Value.int .u64)).toArray) (hB : B = ((nI b).map (Value.int .u64)).toArray) (w : World) :
    Calls Try.prog 22 #[.agg A, .agg B] w fun e w' => ∃ (r : List Nat) (o : Nat), e = .returned (.tuple #[elV r, .int .u64 (o : Int)]) ∧ El4 r ∧ o ≤ 1 ∧
      wv r + wv b = wv a + 115792089237316195423570985008687907853269984665640564039457584007913129639936 * o ∧ Below w.heap.size w w' := by
  go_enter Try.func22, Try.ntmps22
  go_wp2_with (refine wpList_box_row (k := .u64) rfl 33 _ rfl (nI a) (by rw [← hA]; rfl) ha.ne (elMax ha) ?_)
  intro w1 r1 b1 s1
  rw [ha.len] at r1
  go_wp2_with (refine wpList_box_row (k := .u64) rfl 33 _ rfl (nI b) (by rw [← hB]; rfl) hb.ne (elMax hb) ?_)
  intro w2 r2 b2 s2
  rw [hb.len] at r2
  go_wp2_with (refine wpList_alloc_row (k := .u64) rfl 33 rfl (nI z4) (alloc_el _) z4_el.ne (elMax z4_el) ?_)
  intro w3 r3 b3 s3
  rw [z4_el.len] at r3
  have hr1 := (r1.kept b2).kept b3
  have hr2 := r2.kept b3
  have hbw := stepB (stepB b1 b2) b3
  have n1 : w.heap.size < w1.heap.size := by have := s1.out; omega
  have n2 : w1.heap.size < w2.heap.size := by have := s2.out; omega
  have HA : Hid (El4 a) := ha
  have HB : Hid (El4 b) := hb
  clear r1 r2 b1 b2 b3 s1 s2 s3 hA hB ha hb
  go_wp2
  go_loopw [8, 6] (fun iv cv wx => ∃ (i o : Nat) (cur : List Nat), i ≤ 4 ∧ iv = .int .i64 (i : Int) ∧ cv = .int .u64 (o : Int) ∧ o ≤ 1 ∧ Hid (El4 cur) ∧ Hid (wv cur + wv (b.take i) = wv a + 18446744073709551616 ^ i * o) ∧
    RowAt .u64 33 w.heap.size 4 (nI cur) wx ∧ RowAt .u64 33 w1.heap.size 4 (nI b) wx ∧ RowAt .u64 33 w2.heap.size 4 (nI z4) wx ∧ Below w.heap.size w wx) (fun iv _ _ => 4 - (intOf iv).toNat)
  case atStart => exact ⟨0, 0, a, by omega, rfl, rfl, by omega, HA, (by show _ = _; rw [Nat.mul_zero, List.take_zero]; rfl), hr1, hr2, r3, hbw⟩
  case round =>
    obtain ⟨i, o, cur, hi, rfl, rfl, ho, HC, HE, ra, rb, rz, hbx⟩ := hrel
    clear hr1 hr2 r3 hbw
    by_cases hlt : i < 4
    · have hd : decide ((i : Int) < 4) = true := decide_eq_true (by omega)
      have hiI : (i : Int) < 4 := by omega
      have hcb := rb.cell (j := i) (by rw [nI_length, HB.out.1]; exact hlt)
      have hca := ra.cell (j := i) (by rw [nI_length, HC.out.1]; exact hlt)
      have hfa := ra.free i
      rw [nI_get] at hcb hca
      have hy := HB.out.get i
      have hq := HC.out.get i
      have HS : Hid (∀ s o' : Nat, s < 18446744073709551616 → s + b.getD i 0 + o = cur.getD i 0 + 18446744073709551616 * o' → El4 (cur.set i s) ∧ wv (cur.set i s) + wv (b.take (i + 1)) = wv a + 18446744073709551616 ^ (i + 1) * o') := by
        intro s o' hs he
        exact ⟨HC.out.set i hs, tk_step cur b i o o' s (wv a) (by rw [HC.out.1]; exact hlt) (by rw [HB.out.1]; exact hlt) he HE.out⟩
      have HR : Hid (∀ (W : World) (s : Nat), RowAt .u64 33 w.heap.size 4 (nI cur) W → RowAt .u64 33 w.heap.size 4 (nI (cur.set i s)) (W.setCell ⟨w.heap.size, i, none⟩ (.int .u64 (s : Int)))) := fun W s h => by
        rw [← nI_set]
        exact h.set i _
      have HRb : Hid (∀ (W : World) (u : Value), Below wr.heap.size wr W → RowAt .u64 33 w1.heap.size 4 (nI b) (W.setCell ⟨w.heap.size, i, none⟩ u) ∧ RowAt .u64 33 w2.heap.size 4 (nI z4) (W.setCell ⟨w.heap.size, i, none⟩ u) ∧ Below w.heap.size w (W.setCell ⟨w.heap.size, i, none⟩ u)) := fun W u hW =>
        ⟨(rb.kept hW).other (p := ⟨w.heap.size, i, none⟩) (by show w.heap.size ≠ _; omega) u, (rz.kept hW).other (p := ⟨w.heap.size, i, none⟩) (by show w.heap.size ≠ _; omega) u, (Wrote.set w.heap.size i W u).below _ _ (Nat.le_refl _) (stepB hbx hW)⟩
      generalize b.getD i 0 = y at hcb hy HS
      generalize cur.getD i 0 = q at hca hq HS
      obtain ⟨s2, o2, hs2, ho2, he2, run1⟩ := sub64_run q y o hq hy ho
      obtain ⟨k1, k3⟩ := HS.out s2 o2 hs2 he2
      have K1 : Hid (El4 (cur.set i s2)) := k1
      have K3 : Hid _ := k3
      have HRA : Hid _ := ra
      clear rb rz hbx HE k1 k3 HS he2 ra
      go_wp2_with fail
      have hB : Below wr.heap.size wr wr.drew := (Below.refl _ _).drew
      refine wpF_begin 13 (w0 := wr) (by kernel_rfl) ?_
      refine wpF_pure (hb := .inr hB) (i := 0) (oi := { dst := some 12, op := Op.move (Operand.tmp 7), type := 3, pos := "field.go:82", after := #[], guard := none }) (v := ?_) rfl (by decide) (by kernel_rfl) (by kernel_rfl) (by kernel_rfl) (by rfl) ?_ ?_
      rotate_left
      · intro W; first | (go_simp; done) | (go_simp; with_reducible rfl)
      try simp only [Act.put, List.setIfInBounds_toArray, List.set_cons_zero, List.set_cons_succ]
      refine wpF_pure (hb := .inr hB) (i := 1) (oi := { dst := some 13, op := Op.move (Operand.tmp 7), type := 3, pos := "field.go:82", after := #[], guard := none }) (v := ?_) rfl (by decide) (by kernel_rfl) (by kernel_rfl) (by kernel_rfl) (by rfl) ?_ ?_
      rotate_left
      · intro W; first | (go_simp; done) | (go_simp; with_reducible rfl)
      try simp only [Act.put, List.setIfInBounds_toArray, List.set_cons_zero, List.set_cons_succ]
      refine wpF_pure (hb := .inr hB) (i := 2) (oi := { dst := some 14, op := Op.indexAddr 33 (Operand.tmp 2) (Operand.tmp 13), type := 0, pos := "field.go:82", after := #[{ on := 1, ground := Ground.data }], guard := none }) (v := ?_) rfl (by decide) (by kernel_rfl) (by kernel_rfl) (by kernel_rfl) (by rfl) ?_ ?_
      rotate_left
      · intro W; first | (go_simp; done) | (go_simp; with_reducible rfl)
      try simp only [Act.put, List.setIfInBounds_toArray, List.set_cons_zero, List.set_cons_succ]
      refine wpF_take (hb := hB) (i := 3) (oi := { dst := some 15, op := Op.load 31 (Operand.tmp 14), type := 31, pos := "field.go:82", after := #[{ on := 2, ground := Ground.data }], guard := none }) (v := ?_) rfl (by decide) (by kernel_rfl) (by kernel_rfl) (by kernel_rfl) (by kernel_rfl) (by kernel_rfl) (by rfl) ?_ ?_
      rotate_left
      · intro W hW; have hcW := cellK hca hW; first | (go_simp; done) | (go_simp; with_reducible rfl)
      try simp only [Act.put, List.setIfInBounds_toArray, List.set_cons_zero, List.set_cons_succ]
      refine wpF_pure (hb := .inr hB) (i := 4) (oi := { dst := some 16, op := Op.move (Operand.tmp 7), type := 3, pos := "field.go:82", after := #[], guard := none }) (v := ?_) rfl (by decide) (by kernel_rfl) (by kernel_rfl) (by kernel_rfl) (by rfl) ?_ ?_
      rotate_left
      · intro W; first | (go_simp; done) | (go_simp; with_reducible rfl)
      try simp only [Act.put, List.setIfInBounds_toArray, List.set_cons_zero, List.set_cons_succ]
      refine wpF_pure (hb := .inr hB) (i := 5) (oi := { dst := some 17, op := Op.indexAddr 33 (Operand.tmp 3) (Operand.tmp 16), type := 0, pos := "field.go:82", after := #[{ on := 4, ground := Ground.data }], guard := none }) (v := ?_) rfl (by decide) (by kernel_rfl) (by kernel_rfl) (by kernel_rfl) (by rfl) ?_ ?_
      rotate_left
      · intro W; first | (go_simp; done) | (go_simp; with_reducible rfl)
      try simp only [Act.put, List.setIfInBounds_toArray, List.set_cons_zero, List.set_cons_succ]
      refine wpF_take (hb := hB) (i := 6) (oi := { dst := some 18, op := Op.load 31 (Operand.tmp 17), type := 31, pos := "field.go:82", after := #[{ on := 5, ground := Ground.data }], guard := none }) (v := ?_) rfl (by decide) (by kernel_rfl) (by kernel_rfl) (by kernel_rfl) (by kernel_rfl) (by kernel_rfl) (by rfl) ?_ ?_
      rotate_left
      · intro W hW; have hcW := cellK hcb hW; first | (go_simp; done) | (go_simp; with_reducible rfl)
      try simp only [Act.put, List.setIfInBounds_toArray, List.set_cons_zero, List.set_cons_succ]
      refine wpF_pure (hb := .inr hB) (i := 7) (oi := { dst := some 19, op := Op.move (Operand.tmp 6), type := 31, pos := "field.go:82", after := #[], guard := none }) (v := ?_) rfl (by decide) (by kernel_rfl) (by kernel_rfl) (by kernel_rfl) (by rfl) ?_ ?_
      rotate_left
      · intro W; first | (go_simp; done) | (go_simp; with_reducible rfl)
      try simp only [Act.put, List.setIfInBounds_toArray, List.set_cons_zero, List.set_cons_succ]
      refine wpF_do (i := 8) (o := { dst := some 20, op := Op.call { callee := Callee.value (Operand.func 30), args := #[Operand.tmp 15, Operand.tmp 18, Operand.tmp 19], argTypes := #[31, 31, 31] }, type := 59, pos := "field.go:82", after := #[{ on := 3, ground := Ground.data }, { on := 6, ground := Ground.data }, { on := 7, ground := Ground.data }], guard := none }) (by kernel_rfl) rfl (by rfl) fun K hK => ?_
      go_simp
      refine hK.out _ _ (.inr hB) ?_
      clear hK K
      try simp only [Act.put, List.setIfInBounds_toArray, List.set_cons_zero, List.set_cons_succ]
      refine wpF_pure (hb := .inr hB) (i := 9) (oi := { dst := some 11, op := Op.move (Operand.tmp 20), type := 59, pos := "field.go:82", after := #[{ on := 8, ground := Ground.data }], guard := none }) (v := ?_) rfl (by decide) (by kernel_rfl) (by kernel_rfl) (by kernel_rfl) (by rfl) ?_ ?_
      rotate_left
      · intro W; first | (go_simp; done) | (go_simp; with_reducible rfl)
      try simp only [Act.put, List.setIfInBounds_toArray, List.set_cons_zero, List.set_cons_succ]
      refine wpF_pure (hb := .inr hB) (i := 10) (oi := { dst := some 21, op := Op.extract (Operand.tmp 11) 0, type := 31, pos := "field.go:82", after := #[{ on := 9, ground := Ground.data }], guard := none }) (v := ?_) rfl (by decide) (by kernel_rfl) (by kernel_rfl) (by kernel_rfl) (by rfl) ?_ ?_
      rotate_left
      · intro W; first | (go_simp; done) | (go_simp; with_reducible rfl)
      try simp only [Act.put, List.setIfInBounds_toArray, List.set_cons_zero, List.set_cons_succ]
      refine wpF_pure (hb := .inr hB) (i := 11) (oi := { dst := some 22, op := Op.extract (Operand.tmp 11) 1, type := 31, pos := "field.go:82", after := #[{ on := 9, ground := Ground.data }, { on := 13, ground := Ground.gcOnly Departure.lateStores }], guard := none }) (v := ?_) rfl (by decide) (by kernel_rfl) (by kernel_rfl) (by kernel_rfl) (by rfl) ?_ ?_
      rotate_left
      · intro W; first | (go_simp; done) | (go_simp; with_reducible rfl)
      try simp only [Act.put, List.setIfInBounds_toArray, List.set_cons_zero, List.set_cons_succ]
      refine wpF_pure (hb := .inr hB) (i := 12) (oi := { dst := some 23, op := Op.indexAddr 33 (Operand.tmp 2) (Operand.tmp 12), type := 0, pos := "field.go:82", after := #[{ on := 0, ground := Ground.data }, { on := 0, ground := Ground.phase }, { on := 1, ground := Ground.phase }, { on := 2, ground := Ground.phase }, { on := 3, ground := Ground.phase }, { on := 4, ground := Ground.phase }, { on := 5, ground := Ground.phase }, { on := 6, ground := Ground.phase }, { on := 7, ground := Ground.phase }, { on := 8, ground := Ground.phase }, { on := 9, ground := Ground.phase }, { on := 10, ground := Ground.phase }, { on := 11, ground := Ground.textOnly Departure.lateStores }], guard := none }) (v := ?_) rfl (by decide) (by kernel_rfl) (by kernel_rfl) (by kernel_rfl) (by rfl) ?_ ?_
      rotate_left
      · intro W; first | (go_simp; done) | (go_simp; with_reducible rfl)
      try simp only [Act.put, List.setIfInBounds_toArray, List.set_cons_zero, List.set_cons_succ]
      refine wpF_do (i := 13) (o := { dst := none, op := Op.store 31 (Operand.tmp 23) (Operand.tmp 21), type := 0, pos := "field.go:82", after := #[{ on := 12, ground := Ground.data }, { on := 10, ground := Ground.data }, { on := 8, ground := Ground.chain }, { on := 0, ground := Ground.phase }, { on := 1, ground := Ground.phase }, { on := 2, ground := Ground.phase }, { on := 3, ground := Ground.phase }, { on := 4, ground := Ground.phase }, { on := 5, ground := Ground.phase }, { on := 6, ground := Ground.phase }, { on := 7, ground := Ground.phase }, { on := 8, ground := Ground.phase }, { on := 9, ground := Ground.phase }, { on := 10, ground := Ground.phase }, { on := 11, ground := Ground.textOnly Departure.lateStores }], guard := none }) (by kernel_rfl) rfl (by rfl) fun K hK => ?_
      go_simp
      refine hK.out _ _ (.inl rfl) ?_
      clear hK K
      try simp only [Act.put, List.setIfInBounds_toArray, List.set_cons_zero, List.set_cons_succ]
      refine wpF_pure (hb := .inl (by kernel_rfl)) (i := 14) (oi := { dst := some 6, op := Op.assign (Operand.tmp 22), type := 31, pos := "field.go:82", after := #[{ on := 11, ground := Ground.data }, { on := 13, ground := Ground.chain }, { on := 0, ground := Ground.phase }, { on := 1, ground := Ground.phase }, { on := 2, ground := Ground.phase }, { on := 3, ground := Ground.phase }, { on := 4, ground := Ground.phase }, { on := 5, ground := Ground.phase }, { on := 6, ground := Ground.phase }, { on := 7, ground := Ground.phase }, { on := 8, ground := Ground.phase }, { on := 9, ground := Ground.phase }, { on := 10, ground := Ground.phase }, { on := 11, ground := Ground.phase }, { on := 12, ground := Ground.phase }, { on := 13, ground := Ground.phase }], guard := none }) (v := ?_) rfl (by decide) (by kernel_rfl) (by kernel_rfl) (by kernel_rfl) (by rfl) ?_ ?_
      rotate_left
      · intro W; first | (go_simp; done) | (go_simp; with_reducible rfl)
      try simp only [Act.put, List.setIfInBounds_toArray, List.set_cons_zero, List.set_cons_succ]
      refine wpF_done (by kernel_rfl) ?_
      have hR := HR.out _ s2 HRA.out.drew
      obtain ⟨hRb, hRz, hbn⟩ := HRb.out _ (.int .u64 (s2 : Int)) hB
      go_wp2
      go_roundw
      case rel => exact ⟨i + 1, o2, cur.set i s2, by omega, by go_num, rfl, ho2, K1, K3, hR, hRb, hRz, hbn⟩
      case measure => simp [intOf] <;> omega
    · have hie : i = 4 := by omega
      have hd : decide ((i : Int) < 4) = false := decide_eq_false (by omega)
      have hiI : (4 : Int) ≤ (i : Int) := by omega
      have HE2 : Hid (wv cur + wv b = wv a + 115792089237316195423570985008687907853269984665640564039457584007913129639936 * o) := by
        have := HE.out
        rw [hie, List.take_of_length_le (by rw [HB.out.1]; exact Nat.le_refl _)] at this
        exact this
      clear HE hie
      go_wp2_with (first | refine wpList_load_row rfl 33 _ rfl rfl ra _ Try.underlying33 rfl (elInfo HC.out) ?_ | (refine wpList_store_row rfl 33 _ _ rfl (nI cur) rfl rfl rz (by rw [z4_el.len, HC.out.len]) (elInfo z4_el) ?_; intro w6 r6 hw6))
      refine bodyPost_row2 (p := 4) (q := 5) (ty := 33) rfl rfl rfl rfl r6 Try.underlying33 rfl (elInfo HC.out) ?_
      exact ⟨cur, o, rfl, HC.out, ho, HE2.out, hw6.below _ _ (by omega) hbx⟩

/-! ### A number with a word above it -/
def c38 : List Nat := [38, 0, 0, 0]
theorem c38_el : El4 c38 := El4.mk4 (by decide) (by decide) (by decide) (by decide)
theorem c38_wv : wv c38 = 38 := by decide
set_option maxRecDepth 100000 in
set_option maxHeartbeats 2000000 in
theorem fold_any (A : Array Value) (a : List Nat) (t : Nat) (T : Int) (ha : El4 a) (ht : t < 18446744073709551616) (hA : A = ((nI a).map (Value.int .u64)).toArray) (hT : T = (t : Int)) (w : World) :
    Calls Try.prog 35 #[.agg A, .int .u64 T] w fun e w' => ∃ r : List Nat, e = .returned (elV r) ∧ El4 r ∧ wv r % pN = (wv a + 115792089237316195423570985008687907853269984665640564039457584007913129639936 * t) % pN ∧ Below w.heap.size w w' := by
  subst hT
  go_enter Try.func35, Try.ntmps35
  go_wp2_with (refine wpList_box_row (k := .u64) rfl 33 _ rfl (nI a) (by rw [← hA]; rfl) ha.ne (elMax ha) ?_)
  intro w1 r1 b1 s1
  rw [ha.len] at r1
  go_wp2_with (refine wpList_alloc_row (k := .u64) rfl 33 rfl (nI z4) (alloc_el _) z4_el.ne (elMax z4_el) ?_)
  intro w2 r2 b2 s2
  rw [z4_el.len] at r2
  have ra := r1.kept b2
  have hbw := stepB b1 b2
  have n1 : w.heap.size < w1.heap.size := by have := s1.out; omega
  clear r1 b1 b2 s1 s2
  go_wp2_with (refine wpList_load_row rfl 33 _ rfl rfl ra _ Try.underlying33 rfl (elInfo ha) ?_)
  refine (addTimes_any _ _ a c38 t _ ha c38_el ht rfl rfl rfl _).mono ?_
  rintro e w3 ⟨x1, c1, rfl, hx1, hc1, he1, b3⟩
  rw [c38_wv] at he1
  replace ra := ra.kept b3
  replace r2 := r2.kept b3
  replace hbw := stepB hbw b3
  have HE1 : Hid _ := he1
  clear he1 b3
  go_wp2_with (refine wpList_store_row rfl 33 _ _ rfl (nI x1) rfl rfl ra (by rw [hx1.len, ha.len]) (elInfo ha) ?_)
  intro w4 ra4 hw4
  replace r2 := r2.wrote hw4 (by omega)
  replace hbw := hw4.below _ _ (Nat.le_refl _) hbw
  clear ra hw4
  go_wp2_with (refine wpList_load_row rfl 33 _ rfl rfl ra4 _ Try.underlying33 rfl (elInfo hx1) ?_)
  refine (addTimes_any _ _ x1 c38 c1 _ hx1 c38_el hc1 rfl rfl rfl _).mono ?_
  rintro e w5 ⟨x2, c2, rfl, hx2, hc2, he2, b5⟩
  rw [c38_wv] at he2
  replace ra4 := ra4.kept b5
  replace r2 := r2.kept b5
  replace hbw := stepB hbw b5
  have HF : Hid (wv x2 % pN = (wv a + 115792089237316195423570985008687907853269984665640564039457584007913129639936 * t) % pN) := fold_math _ _ _ _ _ _ ha.lt ht HE1.out he2 hx1.lt hx2.lt
  clear he2 HE1 b5
  go_wp2_with (refine wpList_store_row rfl 33 _ _ rfl (nI x2) rfl rfl ra4 (by rw [hx1.len, hx2.len]) (elInfo hx1) ?_)
  intro w6 ra6 hw6
  replace r2 := r2.wrote hw6 (by omega)
  replace hbw := hw6.below _ _ (Nat.le_refl _) hbw
  clear ra4 hw6
  go_wp2_with (first | refine wpList_load_row rfl 33 _ rfl rfl ra6 _ Try.underlying33 rfl (elInfo hx2) ?_ | (refine wpList_store_row rfl 33 _ _ rfl (nI x2) rfl rfl r2 (by rw [z4_el.len, hx2.len]) (elInfo z4_el) ?_; intro w7 r7 hw7))
  refine bodyPost_row (p := 4) (ty := 33) rfl rfl rfl r7 Try.underlying33 rfl (elInfo hx2) ?_
  exact ⟨x2, rfl, hx2, HF.out, hw7.below _ _ (by omega) hbw⟩
end Go.Proofs.Ythokfcmnijpkhab
