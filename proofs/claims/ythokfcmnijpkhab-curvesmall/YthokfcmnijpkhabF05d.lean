/- What sameness, products, squares and small multiples answer: contracts of package field, fourth part. -/
import Derived.Test.YthokfcmnijpkhabF05c
import Derived.Deep.DeepCutAuto
namespace Go.Proofs.Ythokfcmnijpkhab
open Go.ChangeShapes Go.WideShapes Go.ChangeAt Go.RowKit
set_option linter.unusedSimpArgs false
set_option linter.unusedVariables false

theorem cellsEl : Try.prog.cellsOf 31 = 1 := by kernel_rfl
theorem eq_el {x y : List Nat} (hx : El4 x) (hy : El4 y) (w : World) : (Op.equalIn 10000 33 (elV x) (elV y)).run Try.prog w = .ok (decide (wv x = wv y)) w := by
  have h := run_equal_row w (k := .u64) 9998 Try.underlying33 Try.underlying31 cellsEl (nI x) (nI y) hx.len hy.len
  rw [h]
  congr 1
  rw [Bool.eq_iff_iff, decide_eq_true_eq, decide_eq_true_eq]
  exact ⟨fun e => by rw [nI_inj e], fun e => by rw [hx.inj hy e]⟩

/-- The words above the lowest one, and one more. -/
theorem shift_step (low a x1 high b : List Nat) (i s0 s1 s2 s3 c1 : Nat) (hx : x1 = [s0, s1, s2, s3]) (hl : El4 low) (ha : El4 a) (hi : i < 4) (hz : ∀ j, i ≤ j → low.getD j 0 = 0) (hs : wv x1 + 115792089237316195423570985008687907853269984665640564039457584007913129639936 * c1 = wv high + a.getD i 0 * wv b)
    (h : wv low + 18446744073709551616 ^ i * wv high = wv (a.take i) * wv b) :
    wv (low.set i s0) + 18446744073709551616 ^ (i + 1) * wv [s1, s2, s3, c1] = wv (a.take (i + 1)) * wv b ∧ ∀ j, i + 1 ≤ j → (low.set i s0).getD j 0 = 0 := by
  refine ⟨?_, fun j hj => ?_⟩
  · rw [hx, wv_shift] at hs
    exact ml_step low a i s0 (wv [s1, s2, s3, c1]) (wv high) (wv b) (by rw [hl.1]; exact hi) (by rw [ha.1]; exact hi) (hz i (Nat.le_refl _)) hs h
  · have := hz j (by omega)
    rw [List.getD_eq_getElem?_getD, List.getElem?_set_ne (by omega), ← List.getD_eq_getElem?_getD]
    exact this

set_option maxRecDepth 100000 in
set_option maxHeartbeats 4000000 in
theorem fmul_any (A B : Array Value) (a b : List Nat) (ha : El4 a) (hb : El4 b) (hA : A = ((nI a).map (Value.int .u64)).toArray) (hB : B = ((nI b).map (Value.int .u64)).toArray) (w : World) :
    Calls Try.prog 26 #[.agg A, .agg B] w fun e w' => ∃ r : List Nat, e = .returned (elV r) ∧ El4 r ∧ wv r % pN = wv a * wv b % pN ∧ Below w.heap.size w w' := by
  go_enter Try.func26, Try.ntmps26
  go_wp2_with (refine wpList_box_row (k := .u64) rfl 33 _ rfl (nI a) (by rw [← hA]; rfl) ha.ne (elMax ha) ?_)
  intro w1 r1 b1 s1
  rw [ha.len] at r1
  go_wp2_with (refine wpList_box_row (k := .u64) rfl 33 _ rfl (nI b) (by rw [← hB]; rfl) hb.ne (elMax hb) ?_)
  intro w2 r2 b2 s2
  rw [hb.len] at r2
  go_wp2_with (refine wpList_alloc_row (k := .u64) rfl 33 rfl (nI z4) (alloc_el _) z4_el.ne (elMax z4_el) ?_)
  intro w3 r3 b3 s3
  rw [z4_el.len] at r3
  go_wp2_with (refine wpList_alloc_row (k := .u64) rfl 33 rfl (nI z4) (alloc_el _) z4_el.ne (elMax z4_el) ?_)
  intro w4 r4 b4 s4
  rw [z4_el.len] at r4
  go_wp2_with (refine wpList_alloc_row (k := .u64) rfl 33 rfl (nI z4) (alloc_el _) z4_el.ne (elMax z4_el) ?_)
  intro w5 r5 b5 s5
  rw [z4_el.len] at r5
  have hr1 := (((r1.kept b2).kept b3).kept b4).kept b5
  have hr2 := ((r2.kept b3).kept b4).kept b5
  have hr3 := (r3.kept b4).kept b5
  have hr4 := r4.kept b5
  have hbw := stepB (stepB (stepB (stepB b1 b2) b3) b4) b5
  have n1 : w.heap.size < w1.heap.size := by have := s1.out; omega
  have n2 : w1.heap.size < w2.heap.size := by have := s2.out; omega
  have n3 : w2.heap.size < w3.heap.size := by have := s3.out; omega
  have n4 : w3.heap.size < w4.heap.size := by have := s4.out; omega
  have HA : Hid (El4 a) := ha
  have HB : Hid (El4 b) := hb
  clear r1 r2 r3 r4 b1 b2 b3 b4 b5 s1 s2 s3 s4 s5 hA hB ha hb
  go_wp2
  go_loopw [10] (fun iv wx => ∃ (i : Nat) (low high : List Nat), i ≤ 4 ∧ iv = .int .i64 (i : Int) ∧ Hid (El4 low) ∧ Hid (El4 high) ∧ Hid (wv low + 18446744073709551616 ^ i * wv high = wv (a.take i) * wv b) ∧ Hid (∀ j, i ≤ j → low.getD j 0 = 0) ∧
    RowAt .u64 33 w.heap.size 4 (nI a) wx ∧ RowAt .u64 33 w1.heap.size 4 (nI b) wx ∧ RowAt .u64 33 w2.heap.size 4 (nI z4) wx ∧ RowAt .u64 33 w3.heap.size 4 (nI low) wx ∧ RowAt .u64 33 w4.heap.size 4 (nI high) wx ∧ Below w.heap.size w wx) (fun iv _ => 4 - (intOf iv).toNat)
  case atStart => exact ⟨0, z4, z4, by omega, rfl, z4_el, z4_el, (by show _ = _; rw [z4_wv, List.take_zero, Nat.mul_zero]; show 0 = wv [] * wv b; simp [wv]), (fun j _ => z4_get j), hr1, hr2, hr3, hr4, r5, hbw⟩
  case round =>
    obtain ⟨i, low, high, hi, rfl, HL, HH, HE, HZ, ra, rb, rz, rl, rh, hbx⟩ := hrel
    clear hr1 hr2 hr3 hr4 r5 hbw
    by_cases hlt : i < 4
    · have hd : decide ((i : Int) < 4) = true := decide_eq_true (by omega)
      have hiI : (i : Int) < 4 := by omega
      have hca := ra.cell (j := i) (by rw [HA.out.len]; exact hlt)
      rw [nI_get] at hca
      have hq := HA.out.get i
      have hgw := rh.lt
      have HS : Hid (∀ (x1 : List Nat) (s0 s1 s2 s3 c1 : Nat), x1 = [s0, s1, s2, s3] → wv x1 + 115792089237316195423570985008687907853269984665640564039457584007913129639936 * c1 = wv high + a.getD i 0 * wv b →
          wv (low.set i s0) + 18446744073709551616 ^ (i + 1) * wv [s1, s2, s3, c1] = wv (a.take (i + 1)) * wv b ∧ ∀ j, i + 1 ≤ j → (low.set i s0).getD j 0 = 0) := by
        intro x1 s0 s1 s2 s3 c1 hx hs
        exact shift_step low a x1 high b i s0 s1 s2 s3 c1 hx HL.out HA.out hlt HZ.out hs HE.out
      generalize a.getD i 0 = q at hca hq HS
      clear HE HZ
      go_wp2_with fail
      have hB : Below wr.heap.size wr wr.drew := (Below.refl _ _).drew
      refine wpB_begin (Below.refl wr.heap.size wr) (by kernel_rfl) ?_
      refine wpB_take (hb := hB) (i := 0) (oi := { dst := some 14, op := Op.load 33 (Operand.tmp 6), type := 33, pos := "field.go:111", after := #[], guard := none }) (v := ?_) rfl (by kernel_rfl) (by kernel_rfl) (by kernel_rfl) (by rfl) ?_ ?_
      rotate_left
      · intro W hW; refine Eq.trans (exec_load_row' 33 _ (by rfl) (by rfl) rh hW _ Try.underlying33 rfl (elInfo HH.out)) ?_; with_reducible rfl
      try simp only [Act.put, List.setIfInBounds_toArray, List.set_cons_zero, List.set_cons_succ]
      refine wpB_take (hb := hB) (i := 1) (oi := { dst := some 15, op := Op.move (Operand.tmp 7), type := 3, pos := "field.go:111", after := #[], guard := none }) (v := ?_) rfl (by kernel_rfl) (by kernel_rfl) (by kernel_rfl) (by rfl) ?_ ?_
      rotate_left
      · intro W hW; first | (go_simp; done) | (go_simp; with_reducible rfl)
      try simp only [Act.put, List.setIfInBounds_toArray, List.set_cons_zero, List.set_cons_succ]
      refine wpB_take (hb := hB) (i := 2) (oi := { dst := some 16, op := Op.indexAddr 33 (Operand.tmp 2) (Operand.tmp 15), type := 0, pos := "field.go:111", after := #[{ on := 1, ground := Ground.data }], guard := none }) (v := ?_) rfl (by kernel_rfl) (by kernel_rfl) (by kernel_rfl) (by rfl) ?_ ?_
      rotate_left
      · intro W hW; first | (go_simp; done) | (go_simp; with_reducible rfl)
      try simp only [Act.put, List.setIfInBounds_toArray, List.set_cons_zero, List.set_cons_succ]
      refine wpB_take (hb := hB) (i := 3) (oi := { dst := some 17, op := Op.load 31 (Operand.tmp 16), type := 31, pos := "field.go:111", after := #[{ on := 2, ground := Ground.data }], guard := none }) (v := ?_) rfl (by kernel_rfl) (by kernel_rfl) (by kernel_rfl) (by rfl) ?_ ?_
      rotate_left
      · intro W hW; have hcW := cellK hca hW; first | (go_simp; done) | (go_simp; with_reducible rfl)
      try simp only [Act.put, List.setIfInBounds_toArray, List.set_cons_zero, List.set_cons_succ]
      refine wpB_take (hb := hB) (i := 4) (oi := { dst := some 18, op := Op.load 33 (Operand.tmp 3), type := 33, pos := "field.go:111", after := #[], guard := none }) (v := ?_) rfl (by kernel_rfl) (by kernel_rfl) (by kernel_rfl) (by rfl) ?_ ?_
      rotate_left
      · intro W hW; refine Eq.trans (exec_load_row' 33 _ (by rfl) (by rfl) rb hW _ Try.underlying33 rfl (elInfo HB.out)) ?_; with_reducible rfl
      try simp only [Act.put, List.setIfInBounds_toArray, List.set_cons_zero, List.set_cons_succ]
      refine wpB_fork (i := 5) (j := 9) (oi := { dst := some 19, op := Op.call { callee := Callee.value (Operand.func 21), args := #[Operand.tmp 14, Operand.tmp 17, Operand.tmp 18], argTypes := #[33, 31, 33] }, type := 51, pos := "field.go:111", after := #[{ on := 0, ground := Ground.data }, { on := 3, ground := Ground.data }, { on := 4, ground := Ground.data }], guard := none }) (oj := { dst := some 8, op := Op.alloc 33, type := 0, pos := "field.go:111", after := #[], guard := none }) (by kernel_rfl) rfl rfl (by rfl) (by rfl) (fun K hK => ?_) (fun K hK => ?_)
      · go_simp
        refine (addTimes_any _ _ high b q _ HH.out HB.out hq rfl rfl rfl _).mono ?_
        rintro e w6 ⟨x1, c1, rfl, hx1, hc1, he1, b6⟩
        replace hB := stepB hB b6
        try replace hG := hG.kept b6
        refine hK.out _ _ hB ?_
        clear hK K
        try simp only [Act.put, List.setIfInBounds_toArray, List.set_cons_zero, List.set_cons_succ]
        refine wpB_take (hb := hB) (i := 6) (oi := { dst := some 13, op := Op.move (Operand.tmp 19), type := 51, pos := "field.go:111", after := #[{ on := 5, ground := Ground.data }], guard := none }) (v := ?_) rfl (by kernel_rfl) (by kernel_rfl) (by kernel_rfl) (by rfl) ?_ ?_
        rotate_left
        · intro W hW; first | (go_simp; done) | (go_simp; with_reducible rfl)
        try simp only [Act.put, List.setIfInBounds_toArray, List.set_cons_zero, List.set_cons_succ]
        refine wpB_take (hb := hB) (i := 7) (oi := { dst := some 20, op := Op.extract (Operand.tmp 13) 0, type := 33, pos := "field.go:111", after := #[{ on := 6, ground := Ground.data }], guard := none }) (v := ?_) rfl (by kernel_rfl) (by kernel_rfl) (by kernel_rfl) (by rfl) ?_ ?_
        rotate_left
        · intro W hW; first | (go_simp; done) | (go_simp; with_reducible rfl)
        try simp only [Act.put, List.setIfInBounds_toArray, List.set_cons_zero, List.set_cons_succ]
        refine wpB_take (hb := hB) (i := 8) (oi := { dst := some 21, op := Op.extract (Operand.tmp 13) 1, type := 31, pos := "field.go:111", after := #[{ on := 6, ground := Ground.data }, { on := 10, ground := Ground.gcOnly Departure.lateStores }], guard := none }) (v := ?_) rfl (by kernel_rfl) (by kernel_rfl) (by kernel_rfl) (by rfl) ?_ ?_
        rotate_left
        · intro W hW; first | (go_simp; done) | (go_simp; with_reducible rfl)
        try simp only [Act.put, List.setIfInBounds_toArray, List.set_cons_zero, List.set_cons_succ]
        refine wpB_do (i := 9) (o := { dst := some 8, op := Op.alloc 33, type := 0, pos := "field.go:111", after := #[], guard := none }) (by kernel_rfl) rfl (by rfl) fun K hK => ?_
        refine wp_alloc_el hB rfl ?_
        intro g w7 hG hge hB7
        replace hB := hB7
        refine hK.out _ _ hB ?_
        clear hK K
        try simp only [Act.put, List.setIfInBounds_toArray, List.set_cons_zero, List.set_cons_succ]
        refine wpB_do (i := 10) (o := { dst := none, op := Op.store 33 (Operand.tmp 8) (Operand.tmp 20), type := 0, pos := "field.go:111", after := #[{ on := 9, ground := Ground.data }, { on := 7, ground := Ground.data }, { on := 5, ground := Ground.chain }, { on := 0, ground := Ground.phase }, { on := 1, ground := Ground.phase }, { on := 2, ground := Ground.phase }, { on := 3, ground := Ground.phase }, { on := 4, ground := Ground.phase }, { on := 5, ground := Ground.phase }, { on := 6, ground := Ground.phase }, { on := 7, ground := Ground.phase }, { on := 8, ground := Ground.textOnly Departure.lateStores }, { on := 9, ground := Ground.phase }], guard := none }) (by kernel_rfl) rfl (by rfl) fun K hK => ?_
        refine wp_store_el (l := z4) (l2 := x1) hB hge _ _ rfl rfl rfl hG z4_el hx1 ?_
        intro w8 hG8 hB8
        replace hB := hB8
        refine hK.out _ _ hB ?_
        clear hK K
        try simp only [Act.put, List.setIfInBounds_toArray, List.set_cons_zero, List.set_cons_succ]
        refine wpB_take (hb := hB) (i := 11) (oi := { dst := some 9, op := Op.assign (Operand.tmp 21), type := 31, pos := "field.go:111", after := #[{ on := 8, ground := Ground.data }, { on := 10, ground := Ground.chain }, { on := 0, ground := Ground.phase }, { on := 1, ground := Ground.phase }, { on := 2, ground := Ground.phase }, { on := 3, ground := Ground.phase }, { on := 4, ground := Ground.phase }, { on := 5, ground := Ground.phase }, { on := 6, ground := Ground.phase }, { on := 7, ground := Ground.phase }, { on := 8, ground := Ground.phase }, { on := 9, ground := Ground.phase }, { on := 10, ground := Ground.phase }], guard := none }) (v := ?_) rfl (by kernel_rfl) (by kernel_rfl) (by kernel_rfl) (by rfl) ?_ ?_
        rotate_left
        · intro W hW; first | (go_simp; done) | (go_simp; with_reducible rfl)
        try simp only [Act.put, List.setIfInBounds_toArray, List.set_cons_zero, List.set_cons_succ]
        refine wpB_done (by kernel_rfl) ?_
        obtain ⟨s0, s1, s2, s3, hxe, h0, h1, h2, h3⟩ := hx1.four
        obtain ⟨f1, f2⟩ := HS.out x1 s0 s1 s2 s3 c1 hxe he1
        have F1 : Hid _ := f1
        have F2 : Hid (∀ j, i + 1 ≤ j → (low.set i s0).getD j 0 = 0) := f2
        have HL2 : Hid (El4 (low.set i s0)) := HL.out.set i h0
        have hH2 : El4 [s1, s2, s3, c1] := El4.mk4 h1 h2 h3 hc1
        rw [hxe] at hG8
        have hne : g ≠ w3.heap.size := by omega
        have hne' : w3.heap.size ≠ g := by omega
        have k0 : w8.cell? ⟨g, 0, none⟩ = some (.int .u64 (s0 : Int)) := hG8.cell (j := 0) (by simp [nI])
        have k1 : w8.cell? ⟨g, 1, none⟩ = some (.int .u64 (s1 : Int)) := hG8.cell (j := 1) (by simp [nI])
        have k2 : w8.cell? ⟨g, 2, none⟩ = some (.int .u64 (s2 : Int)) := hG8.cell (j := 2) (by simp [nI])
        have k3 : w8.cell? ⟨g, 3, none⟩ = some (.int .u64 (s3 : Int)) := hG8.cell (j := 3) (by simp [nI])
        have rl8 := rl.kept hB
        have hfl := rl8.free i
        have hcl := rl8.cell (j := i) (by rw [HL.out.len]; exact hlt)
        have rl9 := rl8.set i (s0 : Int)
        rw [nI_set] at rl9
        have ra9 := (ra.kept hB).other (p := ⟨w3.heap.size, i, none⟩) (by show w3.heap.size ≠ _; omega) (.int .u64 (s0 : Int))
        have rb9 := (rb.kept hB).other (p := ⟨w3.heap.size, i, none⟩) (by show w3.heap.size ≠ _; omega) (.int .u64 (s0 : Int))
        have rz9 := (rz.kept hB).other (p := ⟨w3.heap.size, i, none⟩) (by show w3.heap.size ≠ _; omega) (.int .u64 (s0 : Int))
        have rh9 := (rh.kept hB).other (p := ⟨w3.heap.size, i, none⟩) (by show w3.heap.size ≠ _; omega) (.int .u64 (s0 : Int))
        have hb9 := (Wrote.set w3.heap.size i w8 (.int .u64 (s0 : Int))).below _ _ (by omega) (stepB hbx hB)
        clear rl8 hG8 ra rb rz rl rh hbx hca he1 hxe f1 f2 HS hB
        go_wp2_with (refine wpList_store_row rfl 33 _ _ rfl (nI [s1, s2, s3, c1]) rfl rfl rh9 (by rw [HH.out.len, hH2.len]) (elInfo HH.out) ?_)
        intro w10 rh10 hw10
        replace ra9 := ra9.wrote hw10 (by omega)
        replace rb9 := rb9.wrote hw10 (by omega)
        replace rz9 := rz9.wrote hw10 (by omega)
        replace rl9 := rl9.wrote hw10 (by omega)
        replace hb9 := hw10.below _ _ (by omega) hb9
        clear rh9 hw10 k0 k1 k2 k3 hfl hcl
        go_wp2
        go_roundw
        case rel => exact ⟨i + 1, low.set i s0, [s1, s2, s3, c1], by omega, by go_num, HL2, hH2, F1, F2, ra9, rb9, rz9, rl9, rh10, hb9⟩
        case measure => simp [intOf] <;> omega
      · refine wp_alloc_el hB rfl ?_
        intro g w7 hG hge hB7
        replace hB := hB7
        refine hK.out _ _ hB ?_
        clear hK K
        try simp only [Act.put, List.setIfInBounds_toArray, List.set_cons_zero, List.set_cons_succ]
        refine wpB_do (i := 5) (o := { dst := some 19, op := Op.call { callee := Callee.value (Operand.func 21), args := #[Operand.tmp 14, Operand.tmp 17, Operand.tmp 18], argTypes := #[33, 31, 33] }, type := 51, pos := "field.go:111", after := #[{ on := 0, ground := Ground.data }, { on := 3, ground := Ground.data }, { on := 4, ground := Ground.data }], guard := none }) (by kernel_rfl) rfl (by rfl) fun K hK => ?_
        go_simp
        refine (addTimes_any _ _ high b q _ HH.out HB.out hq rfl rfl rfl _).mono ?_
        rintro e w6 ⟨x1, c1, rfl, hx1, hc1, he1, b6⟩
        replace hB := stepB hB b6
        try replace hG := hG.kept b6
        refine hK.out _ _ hB ?_
        clear hK K
        try simp only [Act.put, List.setIfInBounds_toArray, List.set_cons_zero, List.set_cons_succ]
        refine wpB_take (hb := hB) (i := 6) (oi := { dst := some 13, op := Op.move (Operand.tmp 19), type := 51, pos := "field.go:111", after := #[{ on := 5, ground := Ground.data }], guard := none }) (v := ?_) rfl (by kernel_rfl) (by kernel_rfl) (by kernel_rfl) (by rfl) ?_ ?_
        rotate_left
        · intro W hW; first | (go_simp; done) | (go_simp; with_reducible rfl)
        try simp only [Act.put, List.setIfInBounds_toArray, List.set_cons_zero, List.set_cons_succ]
        refine wpB_take (hb := hB) (i := 7) (oi := { dst := some 20, op := Op.extract (Operand.tmp 13) 0, type := 33, pos := "field.go:111", after := #[{ on := 6, ground := Ground.data }], guard := none }) (v := ?_) rfl (by kernel_rfl) (by kernel_rfl) (by kernel_rfl) (by rfl) ?_ ?_
        rotate_left
        · intro W hW; first | (go_simp; done) | (go_simp; with_reducible rfl)
        try simp only [Act.put, List.setIfInBounds_toArray, List.set_cons_zero, List.set_cons_succ]
        refine wpB_take (hb := hB) (i := 8) (oi := { dst := some 21, op := Op.extract (Operand.tmp 13) 1, type := 31, pos := "field.go:111", after := #[{ on := 6, ground := Ground.data }, { on := 10, ground := Ground.gcOnly Departure.lateStores }], guard := none }) (v := ?_) rfl (by kernel_rfl) (by kernel_rfl) (by kernel_rfl) (by rfl) ?_ ?_
        rotate_left
        · intro W hW; first | (go_simp; done) | (go_simp; with_reducible rfl)
        try simp only [Act.put, List.setIfInBounds_toArray, List.set_cons_zero, List.set_cons_succ]
        refine wpB_do (i := 10) (o := { dst := none, op := Op.store 33 (Operand.tmp 8) (Operand.tmp 20), type := 0, pos := "field.go:111", after := #[{ on := 9, ground := Ground.data }, { on := 7, ground := Ground.data }, { on := 5, ground := Ground.chain }, { on := 0, ground := Ground.phase }, { on := 1, ground := Ground.phase }, { on := 2, ground := Ground.phase }, { on := 3, ground := Ground.phase }, { on := 4, ground := Ground.phase }, { on := 5, ground := Ground.phase }, { on := 6, ground := Ground.phase }, { on := 7, ground := Ground.phase }, { on := 8, ground := Ground.textOnly Departure.lateStores }, { on := 9, ground := Ground.phase }], guard := none }) (by kernel_rfl) rfl (by rfl) fun K hK => ?_
        refine wp_store_el (l := z4) (l2 := x1) hB hge _ _ rfl rfl rfl hG z4_el hx1 ?_
        intro w8 hG8 hB8
        replace hB := hB8
        refine hK.out _ _ hB ?_
        clear hK K
        try simp only [Act.put, List.setIfInBounds_toArray, List.set_cons_zero, List.set_cons_succ]
        refine wpB_take (hb := hB) (i := 11) (oi := { dst := some 9, op := Op.assign (Operand.tmp 21), type := 31, pos := "field.go:111", after := #[{ on := 8, ground := Ground.data }, { on := 10, ground := Ground.chain }, { on := 0, ground := Ground.phase }, { on := 1, ground := Ground.phase }, { on := 2, ground := Ground.phase }, { on := 3, ground := Ground.phase }, { on := 4, ground := Ground.phase }, { on := 5, ground := Ground.phase }, { on := 6, ground := Ground.phase }, { on := 7, ground := Ground.phase }, { on := 8, ground := Ground.phase }, { on := 9, ground := Ground.phase }, { on := 10, ground := Ground.phase }], guard := none }) (v := ?_) rfl (by kernel_rfl) (by kernel_rfl) (by kernel_rfl) (by rfl) ?_ ?_
        rotate_left
        · intro W hW; first | (go_simp; done) | (go_simp; with_reducible rfl)
        try simp only [Act.put, List.setIfInBounds_toArray, List.set_cons_zero, List.set_cons_succ]
        refine wpB_done (by kernel_rfl) ?_
        obtain ⟨s0, s1, s2, s3, hxe, h0, h1, h2, h3⟩ := hx1.four
        obtain ⟨f1, f2⟩ := HS.out x1 s0 s1 s2 s3 c1 hxe he1
        have F1 : Hid _ := f1
        have F2 : Hid (∀ j, i + 1 ≤ j → (low.set i s0).getD j 0 = 0) := f2
        have HL2 : Hid (El4 (low.set i s0)) := HL.out.set i h0
        have hH2 : El4 [s1, s2, s3, c1] := El4.mk4 h1 h2 h3 hc1
        rw [hxe] at hG8
        have hne : g ≠ w3.heap.size := by omega
        have hne' : w3.heap.size ≠ g := by omega
        have k0 : w8.cell? ⟨g, 0, none⟩ = some (.int .u64 (s0 : Int)) := hG8.cell (j := 0) (by simp [nI])
        have k1 : w8.cell? ⟨g, 1, none⟩ = some (.int .u64 (s1 : Int)) := hG8.cell (j := 1) (by simp [nI])
        have k2 : w8.cell? ⟨g, 2, none⟩ = some (.int .u64 (s2 : Int)) := hG8.cell (j := 2) (by simp [nI])
        have k3 : w8.cell? ⟨g, 3, none⟩ = some (.int .u64 (s3 : Int)) := hG8.cell (j := 3) (by simp [nI])
        have rl8 := rl.kept hB
        have hfl := rl8.free i
        have hcl := rl8.cell (j := i) (by rw [HL.out.len]; exact hlt)
        have rl9 := rl8.set i (s0 : Int)
        rw [nI_set] at rl9
        have ra9 := (ra.kept hB).other (p := ⟨w3.heap.size, i, none⟩) (by show w3.heap.size ≠ _; omega) (.int .u64 (s0 : Int))
        have rb9 := (rb.kept hB).other (p := ⟨w3.heap.size, i, none⟩) (by show w3.heap.size ≠ _; omega) (.int .u64 (s0 : Int))
        have rz9 := (rz.kept hB).other (p := ⟨w3.heap.size, i, none⟩) (by show w3.heap.size ≠ _; omega) (.int .u64 (s0 : Int))
        have rh9 := (rh.kept hB).other (p := ⟨w3.heap.size, i, none⟩) (by show w3.heap.size ≠ _; omega) (.int .u64 (s0 : Int))
        have hb9 := (Wrote.set w3.heap.size i w8 (.int .u64 (s0 : Int))).below _ _ (by omega) (stepB hbx hB)
        clear rl8 hG8 ra rb rz rl rh hbx hca he1 hxe f1 f2 HS hB
        go_wp2_with (refine wpList_store_row rfl 33 _ _ rfl (nI [s1, s2, s3, c1]) rfl rfl rh9 (by rw [HH.out.len, hH2.len]) (elInfo HH.out) ?_)
        intro w10 rh10 hw10
        replace ra9 := ra9.wrote hw10 (by omega)
        replace rb9 := rb9.wrote hw10 (by omega)
        replace rz9 := rz9.wrote hw10 (by omega)
        replace rl9 := rl9.wrote hw10 (by omega)
        replace hb9 := hw10.below _ _ (by omega) hb9
        clear rh9 hw10 k0 k1 k2 k3 hfl hcl
        go_wp2
        go_roundw
        case rel => exact ⟨i + 1, low.set i s0, [s1, s2, s3, c1], by omega, by go_num, HL2, hH2, F1, F2, ra9, rb9, rz9, rl9, rh10, hb9⟩
        case measure => simp [intOf] <;> omega
    · have hie : i = 4 := by omega
      have hd : decide ((i : Int) < 4) = false := decide_eq_false (by omega)
      have hiI : (4 : Int) ≤ (i : Int) := by omega
      have HE2 : Hid (wv low + 115792089237316195423570985008687907853269984665640564039457584007913129639936 * wv high = wv a * wv b) := by
        have := HE.out
        rw [hie, List.take_of_length_le (by rw [HA.out.1]; exact Nat.le_refl _)] at this
        exact this
      have hL := HL.out
      have hH := HH.out
      clear HE hie HZ ra rb
      go_wp2_with (first | refine wpList_load_row rfl 33 _ rfl rfl rl _ Try.underlying33 rfl (elInfo hL) ?_ | refine wpList_load_row rfl 33 _ rfl rfl rh _ Try.underlying33 rfl (elInfo hH) ?_)
      refine (addTimes_any _ _ low high 38 _ hL hH (by decide) rfl rfl rfl _).mono ?_
      rintro e w6 ⟨x1, c1, rfl, hx1, hc1, he1, b6⟩
      have HE1 : Hid _ := mul_math _ _ _ _ _ _ HE2.out he1
      replace rz := rz.kept b6
      replace hbx := stepB hbx b6
      clear he1 b6 rl rh HE2
      go_wp2_with fail
      refine (fold_any _ x1 c1 _ hx1 hc1 rfl rfl _).mono ?_
      rintro e w7 ⟨x2, rfl, hx2, he2, b7⟩
      have HF : Hid (wv x2 % pN = wv a * wv b % pN) := by
        show _ = _
        rw [he2]
        exact HE1.out
      replace rz := rz.kept b7
      replace hbx := stepB hbx b7
      clear he2 HE1 b7
      go_wp2_with (refine wpList_store_row rfl 33 _ _ rfl (nI x2) rfl rfl rz (by rw [z4_el.len, hx2.len]) (elInfo z4_el) ?_; intro w8 r8 hw8)
      refine bodyPost_row (p := 4) (ty := 33) rfl rfl rfl r8 Try.underlying33 rfl (elInfo hx2) ?_
      exact ⟨x2, rfl, hx2, HF.out, hw8.below _ _ (by omega) hbx⟩
end Go.Proofs.Ythokfcmnijpkhab
