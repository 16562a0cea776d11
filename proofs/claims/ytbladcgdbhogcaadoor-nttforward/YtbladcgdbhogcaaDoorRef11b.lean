/- What the document's own sums and differences of polynomials are, and the factors' roots: contracts of the reference of layer 11, second part. -/
import Derived.Test.YtbladcgdbhogcaaDoorRef11a
namespace Go.Proofs.YtbladcgdbhogcaaDoor
open Go.ChangeShapes Go.WideShapes Go.ChangeAt Go.RowKit
set_option linter.unusedSimpArgs false
set_option linter.unusedVariables false

theorem cellB11 {w W : World} {p : Addr} {v : Value} (h : w.cell? p = some v) (hb : Below w.heap.size w W) : W.cell? p = some v := by
  rw [hb.cell (World.block_lt_of_cell? _ _ h)]
  exact h
theorem Wrote.ofdrew11 {g : Nat} {w w' : World} (h : Wrote g w.drew w') : Wrote g w w' := ⟨h.size, h.other, fun B a hB hb => h.below B a hB hb.drew⟩
/-- A number is stored into a row. -/
theorem wp_store_int {e : TypeId} {g cap j : Nat} {l : List Int} {w : World} {op : Oper} {a : Act} {K : Act → World → Prop} {Q : Exit → Act → World → Prop} (x y : Operand) (ho : op.op = .store 3 x y) (hx : a.eval x = .pointer (some ⟨g, j, none⟩)) (X : Int) (hy : a.eval y = .int .i64 X)
    (hr : RowAt .i64 e g cap l w) (hj : j < l.length)
    (h : ∀ w', RowAt .i64 e g cap (l.set j X) w' → Wrote g w w' → K (a.put op.dst undef) w') : op.wp Tryd.prog a w K Q := by
  have hc := hr.cell hj
  have hf := hr.free j
  have h2 := h _ (hr.set j X) (Wrote.set g j w _)
  unfold Oper.wp execOp
  simp only [ho, hx, hy]
  go_simp
  exact h2
theorem wpList_store_int {e : TypeId} {g cap j : Nat} {l : List Int} {w : World} {ops : Array Oper} {rest : List Oper} {op : Oper} {a : Act} {Q : Exit → Act → World → Prop} (hgd : op.guard = none) (x y : Operand) (ho : op.op = .store 3 x y) (hx : a.eval x = .pointer (some ⟨g, j, none⟩)) (X : Int) (hy : a.eval y = .int .i64 X)
    (hr : RowAt .i64 e g cap l w) (hj : j < l.length)
    (h : ∀ w', RowAt .i64 e g cap (l.set j X) w' → Wrote g w w' → wpList Tryd.prog ops Q rest (a.put op.dst undef) w') : wpList Tryd.prog ops Q (op :: rest) a w :=
  wpList_plain hgd fun _ hK => wp_store_int x y ho hx X hy hr hj fun w' h1 h2 => hK _ _ (h w' h1 h2)
theorem pw_pz (x : FZ) (n : Nat) : pwZ ((x.val : Nat) : Int) (n : Int) = (pz x n).val := by
  unfold pwZ
  rw [if_neg (by omega), rsZ_nat, Nat.mod_eq_of_lt x.isLt, Int.toNat_natCast, ← nz_val, pz_nz, nz_self]

set_option maxRecDepth 100000 in
set_option maxHeartbeats 4000000 in
theorem plus11_any (A B : Array Value) (F G : Nat → Int) (hF : Po F) (hG : Po G) (hA : A = ((gI F).map (Value.int .i64)).toArray) (hB : B = ((gI G).map (Value.int .i64)).toArray) (w : World) :
    Calls Tryd.prog 11 #[.agg A, .agg B] w fun e w' => e = .returned (poV fun k => rF F k + rF G k) ∧ Below w.heap.size w w' := by
  have HF : Hid (Po F) := hF
  have HG : Hid (Po G) := hG
  clear hF hG
  go_enter Tryd.func11, Tryd.ntmps11
  go_wp2_with (refine wpList_box_row (k := .i64) rfl 22 _ rfl (gI F) (by rw [← hA]; rfl) (gI_ne _) (poMax _) ?_)
  intro w1 ra bn sn
  rw [gI_length] at ra
  have hbw := bn
  have n1 : w.heap.size < w1.heap.size := by have := sn.out; omega
  clear bn sn hA
  go_wp2_with (refine wpList_box_row (k := .i64) rfl 22 _ rfl (gI G) (by rw [← hB]; rfl) (gI_ne _) (poMax _) ?_)
  intro w2 rb bn sn
  rw [gI_length] at rb
  replace ra := ra.kept bn
  replace hbw := stepB hbw bn
  have n2 : w1.heap.size < w2.heap.size := by have := sn.out; omega
  clear bn sn hB
  go_wp2_with (refine wpList_alloc_row (k := .i64) rfl 22 rfl (gI fun _ => 0) (alloc_po _) (gI_ne _) (poMax _) ?_)
  intro w3 rz bn sn
  rw [gI_length] at rz
  replace ra := ra.kept bn
  replace rb := rb.kept bn
  replace hbw := stepB hbw bn
  have n3 : w2.heap.size < w3.heap.size := by have := sn.out; omega
  clear bn sn
  go_wp2_with (refine wpList_load_row rfl 22 _ rfl rfl ra _ Tryd.underlying22 rfl (poInfo _) ?_)
  refine (clean11_any _ F HF.out rfl _).mono ?_
  rintro e w4 ⟨rfl, bn⟩
  replace ra := ra.kept bn
  replace rb := rb.kept bn
  replace rz := rz.kept bn
  replace hbw := stepB hbw bn
  have n4 := bn.size
  clear bn
  go_wp2_with (refine wpList_store_row rfl 22 _ _ rfl (gI (fzF (rF F))) rfl rfl ra (by rw [gI_length, gI_length]) (poInfo _) ?_)
  intro w5 ra5 hw5
  replace rb := rb.wrote hw5 (by omega)
  replace rz := rz.wrote hw5 (by omega)
  replace hbw := hw5.below _ _ (Nat.le_refl _) hbw
  have n5 : w4.heap.size ≤ w5.heap.size := Nat.le_of_eq hw5.size.symm
  clear ra hw5
  go_wp2_with (refine wpList_load_row rfl 22 _ rfl rfl rb _ Tryd.underlying22 rfl (poInfo _) ?_)
  refine (clean11_any _ G HG.out rfl _).mono ?_
  rintro e w6 ⟨rfl, bn⟩
  replace ra5 := ra5.kept bn
  replace rb := rb.kept bn
  replace rz := rz.kept bn
  replace hbw := stepB hbw bn
  have n6 := bn.size
  clear bn
  go_wp2_with (refine wpList_store_row rfl 22 _ _ rfl (gI (fzF (rF G))) rfl rfl rb (by rw [gI_length, gI_length]) (poInfo _) ?_)
  intro w7 rb7 hw7
  replace ra5 := ra5.wrote hw7 (by omega)
  replace rz := rz.wrote hw7 (by omega)
  replace hbw := hw7.below _ _ (by omega) hbw
  have n7 : w6.heap.size ≤ w7.heap.size := Nat.le_of_eq hw7.size.symm
  clear rb hw7
  obtain ⟨a, ha⟩ : ∃ a : Nat → FZ, a = rF F := ⟨_, rfl⟩
  obtain ⟨b, hb⟩ : ∃ b : Nat → FZ, b = rF G := ⟨_, rfl⟩
  rw [← ha] at ra5
  rw [← hb] at rb7
  have HA : Hid _ := ha
  have HB : Hid _ := hb
  clear ha hb
  go_wp2
  go_loopw [5] (fun iv wx => ∃ (i : Nat) (H : Nat → Int), i ≤ 256 ∧ iv = .int .i64 (i : Int) ∧ Hid (∀ k, k < 256 → H k = if k < i then fzF (fun k => a k + b k) k else fzF a k) ∧ RowAt .i64 22 w.heap.size 256 (gI H) wx ∧ RowAt .i64 22 w1.heap.size 256 (gI (fzF b)) wx ∧ RowAt .i64 22 w2.heap.size 256 (gI fun _ => 0) wx ∧ Below w.heap.size w wx) (fun iv _ => 256 - (intOf iv).toNat)
  case atStart => exact ⟨0, fzF a, by omega, rfl, (by show ∀ k, _; intro k _; rw [if_neg (by omega)]), ra5, rb7, rz, hbw⟩
  case round =>
    obtain ⟨i, H, hi, rfl, HH, ra, rb, rz', hbx⟩ := hrel
    clear ra5 rb7 rz hbw
    by_cases hlt : i < 256
    · have hd : decide ((i : Int) < 256) = true := decide_eq_true (by omega)
      have hiI : (i : Int) < 256 := by omega
      have hca := ra.cell (j := i) (by rw [gI_length]; exact hlt)
      rw [gI_get _ hlt, HH.out i hlt, if_neg (by omega)] at hca
      have hcb := rb.cell (j := i) (by rw [gI_length]; exact hlt)
      rw [gI_get _ hlt] at hcb
      unfold fzF at hca hcb
      have l1 := (a i).isLt
      have l2 := (b i).isLt
      have HV : Hid ((a i + b i).val = ((a i).val + (b i).val) % 3329) := fz_val_add _ _
      obtain ⟨v, hv⟩ : ∃ v : Nat, v = (a i + b i).val := ⟨_, rfl⟩
      have HHn : Hid (∀ k, k < 256 → (if k = i then ((v : Nat) : Int) else H k) = if k < i + 1 then fzF (fun k => a k + b k) k else fzF a k) := by
        show ∀ k, _
        intro k hk
        by_cases h : k = i
        · rw [if_pos h, if_pos (by omega), h, hv]
          rfl
        · rw [if_neg h, HH.out k hk]
          by_cases h2 : k < i
          · rw [if_pos h2, if_pos (by omega)]
          · rw [if_neg h2, if_neg (by omega)]
      rw [HV.out] at hv
      clear HV
      generalize (a i).val = p at hca l1 hv
      generalize (b i).val = q at hcb l2 hv
      obtain ⟨s, hs⟩ : ∃ s : Nat, s = p + q := ⟨_, rfl⟩
      have x1 : IntKind.i64.wrap ((p : Int) + (q : Int)) = (s : Int) := by rw [IntWalk.i64_in _ (by omega)]; omega
      have x2 : ((s : Nat) : Int).tmod 3329 = (v : Int) := by rw [Int.tmod_eq_emod_of_nonneg (by omega)]; omega
      have x3 : IntKind.i64.wrap (v : Int) = (v : Int) := IntWalk.i64_in _ (by omega)
      clear hs
      clear hv
      go_wp2_with fail
      have hB : Below wr.heap.size wr wr.drew := (Below.refl _ _).drew
      refine wpF_begin 10 (w0 := wr) (by kernel_rfl) ?_
      refine wpF_pure (hb := .inr hB) (i := 0) (oi := { dst := some 14, op := Op.move (Operand.tmp 5), type := 3, pos := "ref.go:19", after := #[], guard := none }) (v := ?_) rfl (by decide) (by kernel_rfl) (by kernel_rfl) (by kernel_rfl) (by rfl) ?_ ?_
      rotate_left
      · intro W; first | (go_simp; done) | (go_simp; with_reducible rfl)
      try simp only [Act.put, List.setIfInBounds_toArray, List.set_cons_zero, List.set_cons_succ]
      refine wpF_pure (hb := .inr hB) (i := 1) (oi := { dst := some 15, op := Op.move (Operand.tmp 5), type := 3, pos := "ref.go:19", after := #[], guard := none }) (v := ?_) rfl (by decide) (by kernel_rfl) (by kernel_rfl) (by kernel_rfl) (by rfl) ?_ ?_
      rotate_left
      · intro W; first | (go_simp; done) | (go_simp; with_reducible rfl)
      try simp only [Act.put, List.setIfInBounds_toArray, List.set_cons_zero, List.set_cons_succ]
      refine wpF_pure (hb := .inr hB) (i := 2) (oi := { dst := some 16, op := Op.indexAddr 22 (Operand.tmp 2) (Operand.tmp 15), type := 0, pos := "ref.go:19", after := #[{ on := 1, ground := Ground.data }], guard := none }) (v := ?_) rfl (by decide) (by kernel_rfl) (by kernel_rfl) (by kernel_rfl) (by rfl) ?_ ?_
      rotate_left
      · intro W; first | (go_simp; done) | (go_simp; with_reducible rfl)
      try simp only [Act.put, List.setIfInBounds_toArray, List.set_cons_zero, List.set_cons_succ]
      refine wpF_take (hb := hB) (i := 3) (oi := { dst := some 17, op := Op.load 3 (Operand.tmp 16), type := 3, pos := "ref.go:19", after := #[{ on := 2, ground := Ground.data }], guard := none }) (v := ?_) rfl (by decide) (by kernel_rfl) (by kernel_rfl) (by kernel_rfl) (by kernel_rfl) (by kernel_rfl) (by rfl) ?_ ?_
      rotate_left
      · intro W hW; have hcW := cellB11 hca hW; first | (go_simp; done) | (go_simp; with_reducible rfl)
      try simp only [Act.put, List.setIfInBounds_toArray, List.set_cons_zero, List.set_cons_succ]
      refine wpF_pure (hb := .inr hB) (i := 4) (oi := { dst := some 18, op := Op.move (Operand.tmp 5), type := 3, pos := "ref.go:19", after := #[], guard := none }) (v := ?_) rfl (by decide) (by kernel_rfl) (by kernel_rfl) (by kernel_rfl) (by rfl) ?_ ?_
      rotate_left
      · intro W; first | (go_simp; done) | (go_simp; with_reducible rfl)
      try simp only [Act.put, List.setIfInBounds_toArray, List.set_cons_zero, List.set_cons_succ]
      refine wpF_pure (hb := .inr hB) (i := 5) (oi := { dst := some 19, op := Op.indexAddr 22 (Operand.tmp 3) (Operand.tmp 18), type := 0, pos := "ref.go:19", after := #[{ on := 4, ground := Ground.data }], guard := none }) (v := ?_) rfl (by decide) (by kernel_rfl) (by kernel_rfl) (by kernel_rfl) (by rfl) ?_ ?_
      rotate_left
      · intro W; first | (go_simp; done) | (go_simp; with_reducible rfl)
      try simp only [Act.put, List.setIfInBounds_toArray, List.set_cons_zero, List.set_cons_succ]
      refine wpF_take (hb := hB) (i := 6) (oi := { dst := some 20, op := Op.load 3 (Operand.tmp 19), type := 3, pos := "ref.go:19", after := #[{ on := 5, ground := Ground.data }], guard := none }) (v := ?_) rfl (by decide) (by kernel_rfl) (by kernel_rfl) (by kernel_rfl) (by kernel_rfl) (by kernel_rfl) (by rfl) ?_ ?_
      rotate_left
      · intro W hW; have hcW := cellB11 hcb hW; first | (go_simp; done) | (go_simp; with_reducible rfl)
      try simp only [Act.put, List.setIfInBounds_toArray, List.set_cons_zero, List.set_cons_succ]
      refine wpF_pure (hb := .inr hB) (i := 7) (oi := { dst := some 21, op := Op.binOp BinOp.add 3 (Operand.tmp 17) (Operand.tmp 20) 3, type := 3, pos := "ref.go:19", after := #[{ on := 3, ground := Ground.data }, { on := 6, ground := Ground.data }], guard := none }) (v := ?_) rfl (by decide) (by kernel_rfl) (by kernel_rfl) (by kernel_rfl) (by rfl) ?_ ?_
      rotate_left
      · intro W; first | (go_simp; done) | (go_simp; with_reducible rfl)
      try simp only [Act.put, List.setIfInBounds_toArray, List.set_cons_zero, List.set_cons_succ]
      refine wpF_pure (hb := .inr hB) (i := 8) (oi := { dst := some 22, op := Op.binOp BinOp.rem 3 (Operand.tmp 21) (Operand.const (Value.int IntKind.i64 3329)) 3, type := 3, pos := "ref.go:19", after := #[{ on := 7, ground := Ground.data }], guard := none }) (v := ?_) rfl (by decide) (by kernel_rfl) (by kernel_rfl) (by kernel_rfl) (by rfl) ?_ ?_
      rotate_left
      · intro W; first | (go_simp; done) | (go_simp; with_reducible rfl)
      try simp only [Act.put, List.setIfInBounds_toArray, List.set_cons_zero, List.set_cons_succ]
      refine wpF_pure (hb := .inr hB) (i := 9) (oi := { dst := some 23, op := Op.indexAddr 22 (Operand.tmp 2) (Operand.tmp 14), type := 0, pos := "ref.go:19", after := #[{ on := 0, ground := Ground.data }, { on := 0, ground := Ground.phase }, { on := 1, ground := Ground.phase }, { on := 2, ground := Ground.phase }, { on := 3, ground := Ground.phase }, { on := 4, ground := Ground.phase }, { on := 5, ground := Ground.phase }, { on := 6, ground := Ground.phase }, { on := 7, ground := Ground.phase }, { on := 8, ground := Ground.phase }], guard := none }) (v := ?_) rfl (by decide) (by kernel_rfl) (by kernel_rfl) (by kernel_rfl) (by rfl) ?_ ?_
      rotate_left
      · intro W; first | (go_simp; done) | (go_simp; with_reducible rfl)
      try simp only [Act.put, List.setIfInBounds_toArray, List.set_cons_zero, List.set_cons_succ]
      refine wpF_do (i := 10) (o := { dst := none, op := Op.store 3 (Operand.tmp 23) (Operand.tmp 22), type := 0, pos := "ref.go:19", after := #[{ on := 9, ground := Ground.data }, { on := 8, ground := Ground.data }, { on := 0, ground := Ground.phase }, { on := 1, ground := Ground.phase }, { on := 2, ground := Ground.phase }, { on := 3, ground := Ground.phase }, { on := 4, ground := Ground.phase }, { on := 5, ground := Ground.phase }, { on := 6, ground := Ground.phase }, { on := 7, ground := Ground.phase }, { on := 8, ground := Ground.phase }], guard := none }) (by kernel_rfl) rfl (by rfl) fun K hK => ?_
      refine wp_store_int _ _ (by rfl) (by rfl) (v : Int) (by rfl) ra.drew (by rw [gI_length]; exact hlt) ?_
      intro w8 r8 hw8
      rw [gI_set] at r8
      refine hK.out _ _ (.inl rfl) ?_
      clear hK K
      try simp only [Act.put, List.setIfInBounds_toArray, List.set_cons_zero, List.set_cons_succ]
      refine wpF_done (by kernel_rfl) ?_
      have hw9 := hw8.ofdrew11
      have rb9 := rb.wrote hw9 (by omega)
      have rz9 := rz'.wrote hw9 (by omega)
      have hb9 := hw9.below _ _ (Nat.le_refl _) hbx
      clear ra rb rz' hbx hca hcb hw8 hw9
      go_wp2
      go_roundw
      case rel => exact ⟨i + 1, _, by omega, by go_num, HHn, r8, rb9, rz9, hb9⟩
      case measure => simp [intOf] <;> omega
    · have hie : i = 256 := by omega
      have hd : decide ((i : Int) < 256) = false := decide_eq_false (by omega)
      have hiI : (256 : Int) ≤ (i : Int) := by omega
      have HE : Hid (gI H = gI (fzF fun k => a k + b k)) := by
        show _ = _
        exact gI_congr fun k hk => by rw [HH.out k hk, if_pos (by omega)]
      clear hie
      rw [HE.out] at ra
      go_wp2_with (first | refine wpList_load_row rfl 22 _ rfl rfl ra _ Tryd.underlying22 rfl (poInfo _) ?_ | (refine wpList_store_row rfl 22 _ _ rfl (gI (fzF fun k => a k + b k)) rfl rfl rz' (by rw [gI_length, gI_length]) (poInfo _) ?_; intro w9 r9 hw9))
      refine bodyPost_row (k := .i64) rfl rfl rfl r9 Tryd.underlying22 rfl (poInfo _) ?_
      exact ⟨by rw [HA.out, HB.out], hw9.below _ _ (by omega) hbx⟩

set_option maxRecDepth 100000 in
set_option maxHeartbeats 4000000 in
theorem minus11_any (A B : Array Value) (F G : Nat → Int) (hF : Po F) (hG : Po G) (hA : A = ((gI F).map (Value.int .i64)).toArray) (hB : B = ((gI G).map (Value.int .i64)).toArray) (w : World) :
    Calls Tryd.prog 13 #[.agg A, .agg B] w fun e w' => e = .returned (poV fun k => rF F k - rF G k) ∧ Below w.heap.size w w' := by
  have HF : Hid (Po F) := hF
  have HG : Hid (Po G) := hG
  clear hF hG
  go_enter Tryd.func13, Tryd.ntmps13
  go_wp2_with (refine wpList_box_row (k := .i64) rfl 22 _ rfl (gI F) (by rw [← hA]; rfl) (gI_ne _) (poMax _) ?_)
  intro w1 ra bn sn
  rw [gI_length] at ra
  have hbw := bn
  have n1 : w.heap.size < w1.heap.size := by have := sn.out; omega
  clear bn sn hA
  go_wp2_with (refine wpList_box_row (k := .i64) rfl 22 _ rfl (gI G) (by rw [← hB]; rfl) (gI_ne _) (poMax _) ?_)
  intro w2 rb bn sn
  rw [gI_length] at rb
  replace ra := ra.kept bn
  replace hbw := stepB hbw bn
  have n2 : w1.heap.size < w2.heap.size := by have := sn.out; omega
  clear bn sn hB
  go_wp2_with (refine wpList_alloc_row (k := .i64) rfl 22 rfl (gI fun _ => 0) (alloc_po _) (gI_ne _) (poMax _) ?_)
  intro w3 rz bn sn
  rw [gI_length] at rz
  replace ra := ra.kept bn
  replace rb := rb.kept bn
  replace hbw := stepB hbw bn
  have n3 : w2.heap.size < w3.heap.size := by have := sn.out; omega
  clear bn sn
  go_wp2_with (refine wpList_load_row rfl 22 _ rfl rfl ra _ Tryd.underlying22 rfl (poInfo _) ?_)
  refine (clean11_any _ F HF.out rfl _).mono ?_
  rintro e w4 ⟨rfl, bn⟩
  replace ra := ra.kept bn
  replace rb := rb.kept bn
  replace rz := rz.kept bn
  replace hbw := stepB hbw bn
  have n4 := bn.size
  clear bn
  go_wp2_with (refine wpList_store_row rfl 22 _ _ rfl (gI (fzF (rF F))) rfl rfl ra (by rw [gI_length, gI_length]) (poInfo _) ?_)
  intro w5 ra5 hw5
  replace rb := rb.wrote hw5 (by omega)
  replace rz := rz.wrote hw5 (by omega)
  replace hbw := hw5.below _ _ (Nat.le_refl _) hbw
  have n5 : w4.heap.size ≤ w5.heap.size := Nat.le_of_eq hw5.size.symm
  clear ra hw5
  go_wp2_with (refine wpList_load_row rfl 22 _ rfl rfl rb _ Tryd.underlying22 rfl (poInfo _) ?_)
  refine (clean11_any _ G HG.out rfl _).mono ?_
  rintro e w6 ⟨rfl, bn⟩
  replace ra5 := ra5.kept bn
  replace rb := rb.kept bn
  replace rz := rz.kept bn
  replace hbw := stepB hbw bn
  have n6 := bn.size
  clear bn
  go_wp2_with (refine wpList_store_row rfl 22 _ _ rfl (gI (fzF (rF G))) rfl rfl rb (by rw [gI_length, gI_length]) (poInfo _) ?_)
  intro w7 rb7 hw7
  replace ra5 := ra5.wrote hw7 (by omega)
  replace rz := rz.wrote hw7 (by omega)
  replace hbw := hw7.below _ _ (by omega) hbw
  have n7 : w6.heap.size ≤ w7.heap.size := Nat.le_of_eq hw7.size.symm
  clear rb hw7
  obtain ⟨a, ha⟩ : ∃ a : Nat → FZ, a = rF F := ⟨_, rfl⟩
  obtain ⟨b, hb⟩ : ∃ b : Nat → FZ, b = rF G := ⟨_, rfl⟩
  rw [← ha] at ra5
  rw [← hb] at rb7
  have HA : Hid _ := ha
  have HB : Hid _ := hb
  clear ha hb
  go_wp2
  go_loopw [5] (fun iv wx => ∃ (i : Nat) (H : Nat → Int), i ≤ 256 ∧ iv = .int .i64 (i : Int) ∧ Hid (∀ k, k < 256 → H k = if k < i then fzF (fun k => a k - b k) k else fzF a k) ∧ RowAt .i64 22 w.heap.size 256 (gI H) wx ∧ RowAt .i64 22 w1.heap.size 256 (gI (fzF b)) wx ∧ RowAt .i64 22 w2.heap.size 256 (gI fun _ => 0) wx ∧ Below w.heap.size w wx) (fun iv _ => 256 - (intOf iv).toNat)
  case atStart => exact ⟨0, fzF a, by omega, rfl, (by show ∀ k, _; intro k _; rw [if_neg (by omega)]), ra5, rb7, rz, hbw⟩
  case round =>
    obtain ⟨i, H, hi, rfl, HH, ra, rb, rz', hbx⟩ := hrel
    clear ra5 rb7 rz hbw
    by_cases hlt : i < 256
    · have hd : decide ((i : Int) < 256) = true := decide_eq_true (by omega)
      have hiI : (i : Int) < 256 := by omega
      have hca := ra.cell (j := i) (by rw [gI_length]; exact hlt)
      rw [gI_get _ hlt, HH.out i hlt, if_neg (by omega)] at hca
      have hcb := rb.cell (j := i) (by rw [gI_length]; exact hlt)
      rw [gI_get _ hlt] at hcb
      unfold fzF at hca hcb
      have l1 := (a i).isLt
      have l2 := (b i).isLt
      have HV : Hid ((a i - b i).val = ((a i).val + 3329 - (b i).val) % 3329) := fz_val_sub _ _
      obtain ⟨v, hv⟩ : ∃ v : Nat, v = (a i - b i).val := ⟨_, rfl⟩
      have HHn : Hid (∀ k, k < 256 → (if k = i then ((v : Nat) : Int) else H k) = if k < i + 1 then fzF (fun k => a k - b k) k else fzF a k) := by
        show ∀ k, _
        intro k hk
        by_cases h : k = i
        · rw [if_pos h, if_pos (by omega), h, hv]
          rfl
        · rw [if_neg h, HH.out k hk]
          by_cases h2 : k < i
          · rw [if_pos h2, if_pos (by omega)]
          · rw [if_neg h2, if_neg (by omega)]
      rw [HV.out] at hv
      clear HV
      generalize (a i).val = p at hca l1 hv
      generalize (b i).val = q at hcb l2 hv
      obtain ⟨s, hs⟩ : ∃ s : Nat, s = p + 3329 := ⟨_, rfl⟩
      obtain ⟨t, ht⟩ : ∃ t : Nat, t = s - q := ⟨_, rfl⟩
      have x1 : IntKind.i64.wrap ((p : Int) + 3329) = (s : Int) := by rw [IntWalk.i64_in _ (by omega)]; omega
      have x2 : IntKind.i64.wrap ((s : Int) - (q : Int)) = (t : Int) := by rw [IntWalk.i64_in _ (by omega)]; omega
      have x3 : ((t : Nat) : Int).tmod 3329 = (v : Int) := by rw [Int.tmod_eq_emod_of_nonneg (by omega)]; omega
      have x4 : IntKind.i64.wrap (v : Int) = (v : Int) := IntWalk.i64_in _ (by omega)
      clear hs ht
      clear hv
      go_wp2_with fail
      have hB : Below wr.heap.size wr wr.drew := (Below.refl _ _).drew
      refine wpF_begin 11 (w0 := wr) (by kernel_rfl) ?_
      refine wpF_pure (hb := .inr hB) (i := 0) (oi := { dst := some 14, op := Op.move (Operand.tmp 5), type := 3, pos := "ref.go:29", after := #[], guard := none }) (v := ?_) rfl (by decide) (by kernel_rfl) (by kernel_rfl) (by kernel_rfl) (by rfl) ?_ ?_
      rotate_left
      · intro W; first | (go_simp; done) | (go_simp; with_reducible rfl)
      try simp only [Act.put, List.setIfInBounds_toArray, List.set_cons_zero, List.set_cons_succ]
      refine wpF_pure (hb := .inr hB) (i := 1) (oi := { dst := some 15, op := Op.move (Operand.tmp 5), type := 3, pos := "ref.go:29", after := #[], guard := none }) (v := ?_) rfl (by decide) (by kernel_rfl) (by kernel_rfl) (by kernel_rfl) (by rfl) ?_ ?_
      rotate_left
      · intro W; first | (go_simp; done) | (go_simp; with_reducible rfl)
      try simp only [Act.put, List.setIfInBounds_toArray, List.set_cons_zero, List.set_cons_succ]
      refine wpF_pure (hb := .inr hB) (i := 2) (oi := { dst := some 16, op := Op.indexAddr 22 (Operand.tmp 2) (Operand.tmp 15), type := 0, pos := "ref.go:29", after := #[{ on := 1, ground := Ground.data }], guard := none }) (v := ?_) rfl (by decide) (by kernel_rfl) (by kernel_rfl) (by kernel_rfl) (by rfl) ?_ ?_
      rotate_left
      · intro W; first | (go_simp; done) | (go_simp; with_reducible rfl)
      try simp only [Act.put, List.setIfInBounds_toArray, List.set_cons_zero, List.set_cons_succ]
      refine wpF_take (hb := hB) (i := 3) (oi := { dst := some 17, op := Op.load 3 (Operand.tmp 16), type := 3, pos := "ref.go:29", after := #[{ on := 2, ground := Ground.data }], guard := none }) (v := ?_) rfl (by decide) (by kernel_rfl) (by kernel_rfl) (by kernel_rfl) (by kernel_rfl) (by kernel_rfl) (by rfl) ?_ ?_
      rotate_left
      · intro W hW; have hcW := cellB11 hca hW; first | (go_simp; done) | (go_simp; with_reducible rfl)
      try simp only [Act.put, List.setIfInBounds_toArray, List.set_cons_zero, List.set_cons_succ]
      refine wpF_pure (hb := .inr hB) (i := 4) (oi := { dst := some 18, op := Op.binOp BinOp.add 3 (Operand.tmp 17) (Operand.const (Value.int IntKind.i64 3329)) 3, type := 3, pos := "ref.go:29", after := #[{ on := 3, ground := Ground.data }], guard := none }) (v := ?_) rfl (by decide) (by kernel_rfl) (by kernel_rfl) (by kernel_rfl) (by rfl) ?_ ?_
      rotate_left
      · intro W; first | (go_simp; done) | (go_simp; with_reducible rfl)
      try simp only [Act.put, List.setIfInBounds_toArray, List.set_cons_zero, List.set_cons_succ]
      refine wpF_pure (hb := .inr hB) (i := 5) (oi := { dst := some 19, op := Op.move (Operand.tmp 5), type := 3, pos := "ref.go:29", after := #[], guard := none }) (v := ?_) rfl (by decide) (by kernel_rfl) (by kernel_rfl) (by kernel_rfl) (by rfl) ?_ ?_
      rotate_left
      · intro W; first | (go_simp; done) | (go_simp; with_reducible rfl)
      try simp only [Act.put, List.setIfInBounds_toArray, List.set_cons_zero, List.set_cons_succ]
      refine wpF_pure (hb := .inr hB) (i := 6) (oi := { dst := some 20, op := Op.indexAddr 22 (Operand.tmp 3) (Operand.tmp 19), type := 0, pos := "ref.go:29", after := #[{ on := 5, ground := Ground.data }], guard := none }) (v := ?_) rfl (by decide) (by kernel_rfl) (by kernel_rfl) (by kernel_rfl) (by rfl) ?_ ?_
      rotate_left
      · intro W; first | (go_simp; done) | (go_simp; with_reducible rfl)
      try simp only [Act.put, List.setIfInBounds_toArray, List.set_cons_zero, List.set_cons_succ]
      refine wpF_take (hb := hB) (i := 7) (oi := { dst := some 21, op := Op.load 3 (Operand.tmp 20), type := 3, pos := "ref.go:29", after := #[{ on := 6, ground := Ground.data }], guard := none }) (v := ?_) rfl (by decide) (by kernel_rfl) (by kernel_rfl) (by kernel_rfl) (by kernel_rfl) (by kernel_rfl) (by rfl) ?_ ?_
      rotate_left
      · intro W hW; have hcW := cellB11 hcb hW; first | (go_simp; done) | (go_simp; with_reducible rfl)
      try simp only [Act.put, List.setIfInBounds_toArray, List.set_cons_zero, List.set_cons_succ]
      refine wpF_pure (hb := .inr hB) (i := 8) (oi := { dst := some 22, op := Op.binOp BinOp.sub 3 (Operand.tmp 18) (Operand.tmp 21) 3, type := 3, pos := "ref.go:29", after := #[{ on := 4, ground := Ground.data }, { on := 7, ground := Ground.data }], guard := none }) (v := ?_) rfl (by decide) (by kernel_rfl) (by kernel_rfl) (by kernel_rfl) (by rfl) ?_ ?_
      rotate_left
      · intro W; first | (go_simp; done) | (go_simp; with_reducible rfl)
      try simp only [Act.put, List.setIfInBounds_toArray, List.set_cons_zero, List.set_cons_succ]
      refine wpF_pure (hb := .inr hB) (i := 9) (oi := { dst := some 23, op := Op.binOp BinOp.rem 3 (Operand.tmp 22) (Operand.const (Value.int IntKind.i64 3329)) 3, type := 3, pos := "ref.go:29", after := #[{ on := 8, ground := Ground.data }], guard := none }) (v := ?_) rfl (by decide) (by kernel_rfl) (by kernel_rfl) (by kernel_rfl) (by rfl) ?_ ?_
      rotate_left
      · intro W; first | (go_simp; done) | (go_simp; with_reducible rfl)
      try simp only [Act.put, List.setIfInBounds_toArray, List.set_cons_zero, List.set_cons_succ]
      refine wpF_pure (hb := .inr hB) (i := 10) (oi := { dst := some 24, op := Op.indexAddr 22 (Operand.tmp 2) (Operand.tmp 14), type := 0, pos := "ref.go:29", after := #[{ on := 0, ground := Ground.data }, { on := 0, ground := Ground.phase }, { on := 1, ground := Ground.phase }, { on := 2, ground := Ground.phase }, { on := 3, ground := Ground.phase }, { on := 4, ground := Ground.phase }, { on := 5, ground := Ground.phase }, { on := 6, ground := Ground.phase }, { on := 7, ground := Ground.phase }, { on := 8, ground := Ground.phase }, { on := 9, ground := Ground.phase }], guard := none }) (v := ?_) rfl (by decide) (by kernel_rfl) (by kernel_rfl) (by kernel_rfl) (by rfl) ?_ ?_
      rotate_left
      · intro W; first | (go_simp; done) | (go_simp; with_reducible rfl)
      try simp only [Act.put, List.setIfInBounds_toArray, List.set_cons_zero, List.set_cons_succ]
      refine wpF_do (i := 11) (o := { dst := none, op := Op.store 3 (Operand.tmp 24) (Operand.tmp 23), type := 0, pos := "ref.go:29", after := #[{ on := 10, ground := Ground.data }, { on := 9, ground := Ground.data }, { on := 0, ground := Ground.phase }, { on := 1, ground := Ground.phase }, { on := 2, ground := Ground.phase }, { on := 3, ground := Ground.phase }, { on := 4, ground := Ground.phase }, { on := 5, ground := Ground.phase }, { on := 6, ground := Ground.phase }, { on := 7, ground := Ground.phase }, { on := 8, ground := Ground.phase }, { on := 9, ground := Ground.phase }], guard := none }) (by kernel_rfl) rfl (by rfl) fun K hK => ?_
      refine wp_store_int _ _ (by rfl) (by rfl) (v : Int) (by rfl) ra.drew (by rw [gI_length]; exact hlt) ?_
      intro w8 r8 hw8
      rw [gI_set] at r8
      refine hK.out _ _ (.inl rfl) ?_
      clear hK K
      try simp only [Act.put, List.setIfInBounds_toArray, List.set_cons_zero, List.set_cons_succ]
      refine wpF_done (by kernel_rfl) ?_
      have hw9 := hw8.ofdrew11
      have rb9 := rb.wrote hw9 (by omega)
      have rz9 := rz'.wrote hw9 (by omega)
      have hb9 := hw9.below _ _ (Nat.le_refl _) hbx
      clear ra rb rz' hbx hca hcb hw8 hw9
      go_wp2
      go_roundw
      case rel => exact ⟨i + 1, _, by omega, by go_num, HHn, r8, rb9, rz9, hb9⟩
      case measure => simp [intOf] <;> omega
    · have hie : i = 256 := by omega
      have hd : decide ((i : Int) < 256) = false := decide_eq_false (by omega)
      have hiI : (256 : Int) ≤ (i : Int) := by omega
      have HE : Hid (gI H = gI (fzF fun k => a k - b k)) := by
        show _ = _
        exact gI_congr fun k hk => by rw [HH.out k hk, if_pos (by omega)]
      clear hie
      rw [HE.out] at ra
      go_wp2_with (first | refine wpList_load_row rfl 22 _ rfl rfl ra _ Tryd.underlying22 rfl (poInfo _) ?_ | (refine wpList_store_row rfl 22 _ _ rfl (gI (fzF fun k => a k - b k)) rfl rfl rz' (by rw [gI_length, gI_length]) (poInfo _) ?_; intro w9 r9 hw9))
      refine bodyPost_row (k := .i64) rfl rfl rfl r9 Tryd.underlying22 rfl (poInfo _) ?_
      exact ⟨by rw [HA.out, HB.out], hw9.below _ _ (by omega) hbx⟩

set_option maxRecDepth 100000 in
set_option maxHeartbeats 1000000 in
theorem root11_any (i : Nat) (hi : i < 128) (I : Int) (hI : I = (i : Int)) (w : World) :
    Calls Tryd.prog 36 #[.int .i64 I] w fun e w' => e = .returned (.int .i64 (((zr i).val : Nat) : Int)) ∧ w' = w := by
  subst hI
  have hm : bits .and .i64 (i : Int) 127 = (i : Int) := by
    have h : ∀ i : Fin 128, bits .and .i64 ((i.val : Nat) : Int) 127 = ((i.val : Nat) : Int) := by decide +kernel
    exact h ⟨i, hi⟩
  have hb : tnJ i 7 < 128 := tnJ_lt i 7
  have HP : Hid (pwZ 17 ((2 * tnJ i 7 + 1 : Nat) : Int) = (zr i).val) := by
    show _ = _
    unfold pwZ zr
    rw [if_neg (by omega), ← show nz 17 = (17 : FZ) from rfl, ← pz_nz, nz_val]
    rfl
  go_enter Tryd.func36, Tryd.ntmps36
  go_wp2_with fail
  refine (turnedZ_any (i : Int) i hm (by omega) _).mono ?_
  rintro e w1 ⟨rfl, rfl⟩
  generalize tnJ i 7 = t at hb HP
  obtain ⟨d, hd⟩ : ∃ d : Nat, d = 2 * t := ⟨_, rfl⟩
  obtain ⟨s, hs⟩ : ∃ s : Nat, s = 2 * t + 1 := ⟨_, rfl⟩
  have x1 : IntKind.i64.wrap (2 * (t : Int)) = (d : Int) := by rw [IntWalk.i64_in _ (by omega)]; omega
  have x2 : IntKind.i64.wrap ((d : Int) + 1) = (s : Int) := by rw [IntWalk.i64_in _ (by omega)]; omega
  have hs2 : s ≤ 300 := by omega
  rw [← hs] at HP
  clear hd hs hm
  go_wp2_with fail
  refine (powerZ_any 17 (s : Int) (by decide) ⟨by omega, by omega⟩ _).mono ?_
  rintro e w2 ⟨rfl, rfl⟩
  rw [HP.out]
  go_wp2
  go_ret
  exact ⟨rfl, rfl⟩
end Go.Proofs.YtbladcgdbhogcaaDoor
