/- What the document's own products of polynomials are, factor by factor and term by term: contracts of the reference of layer 11, fifth part. -/
import Derived.Test.YtbladcgdbhogcaaDoorRef11d
namespace Go.Proofs.YtbladcgdbhogcaaDoor
open Go.ChangeShapes Go.WideShapes Go.ChangeAt Go.RowKit
set_option linter.unusedSimpArgs false
set_option linter.unusedVariables false

theorem fz_even (x y u v z : FZ) : (x * y + u * v * z).val = (x.val * y.val + u.val * v.val % 3329 * z.val) % 3329 := by
  rw [fz_val_add, fz_val_mul, fz_val_mul (u * v) z, fz_val_mul u v]
  omega
theorem fz_odd (x y u v : FZ) : (x * y + u * v).val = (x.val * y.val + u.val * v.val) % 3329 := by
  rw [fz_val_add, fz_val_mul, fz_val_mul u v]
  omega
theorem even_facts (x y u v z : FZ) : ∃ m1 m2 r2 m3 s t : Nat, t = (x * y + u * v * z).val ∧ IntKind.i64.wrap (((x.val : Nat) : Int) * ((y.val : Nat) : Int)) = (m1 : Int) ∧ IntKind.i64.wrap (((u.val : Nat) : Int) * ((v.val : Nat) : Int)) = (m2 : Int) ∧ ((m2 : Nat) : Int).tmod 3329 = (r2 : Int) ∧ IntKind.i64.wrap (r2 : Int) = (r2 : Int) ∧
    IntKind.i64.wrap ((r2 : Int) * ((z.val : Nat) : Int)) = (m3 : Int) ∧ IntKind.i64.wrap ((m1 : Int) + (m3 : Int)) = (s : Int) ∧ ((s : Nat) : Int).tmod 3329 = (t : Int) ∧ IntKind.i64.wrap (t : Int) = (t : Int) := by
  have h1 := mul_lt_fz x y
  have h2 := mul_lt_fz u v
  have h3 : u.val * v.val % 3329 * z.val < 11082241 := by
    have a1 : u.val * v.val % 3329 < 3329 := Nat.mod_lt _ (by decide)
    have a2 := z.isLt
    have : u.val * v.val % 3329 * z.val ≤ 3328 * 3328 := Nat.mul_le_mul (by omega) (by omega)
    omega
  have h4 := fz_even x y u v z
  refine ⟨x.val * y.val, u.val * v.val, u.val * v.val % 3329, u.val * v.val % 3329 * z.val, x.val * y.val + u.val * v.val % 3329 * z.val, _, rfl, ?_, ?_, ?_, ?_, ?_, ?_, ?_, ?_⟩
  · rw [← Int.natCast_mul]
    exact IntWalk.i64_in _ (by omega)
  · rw [← Int.natCast_mul]
    exact IntWalk.i64_in _ (by omega)
  · rw [Int.tmod_eq_emod_of_nonneg (by omega)]
    omega
  · exact IntWalk.i64_in _ (by omega)
  · rw [← Int.natCast_mul]
    exact IntWalk.i64_in _ (by omega)
  · exact IntWalk.i64_in _ (by omega)
  · rw [Int.tmod_eq_emod_of_nonneg (by omega), h4]
    omega
  · exact IntWalk.i64_in _ (by omega)
theorem odd_facts (x y u v : FZ) : ∃ m1 m2 s t : Nat, t = (x * y + u * v).val ∧ IntKind.i64.wrap (((x.val : Nat) : Int) * ((y.val : Nat) : Int)) = (m1 : Int) ∧ IntKind.i64.wrap (((u.val : Nat) : Int) * ((v.val : Nat) : Int)) = (m2 : Int) ∧
    IntKind.i64.wrap ((m1 : Int) + (m2 : Int)) = (s : Int) ∧ ((s : Nat) : Int).tmod 3329 = (t : Int) ∧ IntKind.i64.wrap (t : Int) = (t : Int) := by
  have h1 := mul_lt_fz x y
  have h2 := mul_lt_fz u v
  have h4 := fz_odd x y u v
  refine ⟨x.val * y.val, u.val * v.val, x.val * y.val + u.val * v.val, _, rfl, ?_, ?_, ?_, ?_, ?_⟩
  · rw [← Int.natCast_mul]
    exact IntWalk.i64_in _ (by omega)
  · rw [← Int.natCast_mul]
    exact IntWalk.i64_in _ (by omega)
  · exact IntWalk.i64_in _ (by omega)
  · rw [Int.tmod_eq_emod_of_nonneg (by omega), h4]
    omega
  · exact IntWalk.i64_in _ (by omega)

set_option maxRecDepth 100000 in
set_option maxHeartbeats 4000000 in
theorem times11_any (A B : Array Value) (F G : Nat → Int) (hF : Po F) (hG : Po G) (hA : A = ((gI F).map (Value.int .i64)).toArray) (hB : B = ((gI G).map (Value.int .i64)).toArray) (w : World) :
    Calls Tryd.prog 21 #[.agg A, .agg B] w fun e w' => e = .returned (poV (tm (rF F) (rF G))) ∧ Below w.heap.size w w' := by
  have HF : Hid (Po F) := hF
  have HG : Hid (Po G) := hG
  clear hF hG
  go_enter Tryd.func21, Tryd.ntmps21
  go_wp2_with (refine wpList_box_row (k := .i64) rfl 22 _ rfl (gI F) (by rw [← hA]; rfl) (gI_ne _) (poMax _) ?_)
  intro w1 ra bn sn
  rw [gI_length] at ra
  have hbw := bn
  have n1 : w.heap.size < w1.heap.size := by have := sn.out; omega
  clear bn sn hA
  go_wp2_with (refine wpList_box_row (k := .i64) rfl 22 _ rfl (gI G) (by rw [← hB]; rfl) (gI_ne _) (poMax _) ?_)
  intro w2 rb bn sn
  rw [gI_length] at rb
  replace ra := ra.kept bn
  replace hbw := stepB hbw bn
  have n2 : w1.heap.size < w2.heap.size := by have := sn.out; omega
  clear bn sn hB
  go_wp2_with (refine wpList_alloc_row (k := .i64) rfl 22 rfl (gI fun _ => 0) (alloc_po _) (gI_ne _) (poMax _) ?_)
  intro w3 rz bn sn
  rw [gI_length] at rz
  replace ra := ra.kept bn
  replace rb := rb.kept bn
  replace hbw := stepB hbw bn
  have n3 : w2.heap.size < w3.heap.size := by have := sn.out; omega
  clear bn sn
  go_wp2_with (refine wpList_load_row rfl 22 _ rfl rfl ra _ Tryd.underlying22 rfl (poInfo _) ?_)
  refine (clean11_any _ F HF.out rfl _).mono ?_
  rintro e w4 ⟨rfl, bn⟩
  replace ra := ra.kept bn
  replace rb := rb.kept bn
  replace rz := rz.kept bn
  replace hbw := stepB hbw bn
  have n4 := bn.size
  clear bn
  go_wp2_with (refine wpList_store_row rfl 22 _ _ rfl (gI (fzF (rF F))) rfl rfl ra (by rw [gI_length, gI_length]) (poInfo _) ?_)
  intro w5 ra5 hw5
  replace rb := rb.wrote hw5 (by omega)
  replace rz := rz.wrote hw5 (by omega)
  replace hbw := hw5.below _ _ (Nat.le_refl _) hbw
  have n5 : w4.heap.size ≤ w5.heap.size := Nat.le_of_eq hw5.size.symm
  clear ra hw5
  go_wp2_with (refine wpList_load_row rfl 22 _ rfl rfl rb _ Tryd.underlying22 rfl (poInfo _) ?_)
  refine (clean11_any _ G HG.out rfl _).mono ?_
  rintro e w6 ⟨rfl, bn⟩
  replace ra5 := ra5.kept bn
  replace rb := rb.kept bn
  replace rz := rz.kept bn
  replace hbw := stepB hbw bn
  have n6 := bn.size
  clear bn
  go_wp2_with (refine wpList_store_row rfl 22 _ _ rfl (gI (fzF (rF G))) rfl rfl rb (by rw [gI_length, gI_length]) (poInfo _) ?_)
  intro w7 rb7 hw7
  replace ra5 := ra5.wrote hw7 (by omega)
  replace rz := rz.wrote hw7 (by omega)
  replace hbw := hw7.below _ _ (by omega) hbw
  have n7 : w6.heap.size ≤ w7.heap.size := Nat.le_of_eq hw7.size.symm
  clear rb hw7
  obtain ⟨a, ha⟩ : ∃ a : Nat → FZ, a = rF F := ⟨_, rfl⟩
  obtain ⟨b, hb⟩ : ∃ b : Nat → FZ, b = rF G := ⟨_, rfl⟩
  rw [← ha] at ra5
  rw [← hb] at rb7
  have HA : Hid _ := ha
  have HB : Hid _ := hb
  clear ha hb
  go_wp2_with (refine wpList_alloc_row (k := .i64) rfl 22 rfl (gI fun _ => 0) (alloc_po _) (gI_ne _) (poMax _) ?_)
  intro w8 ro bn sn
  rw [gI_length] at ro
  replace ra5 := ra5.kept bn
  replace rb7 := rb7.kept bn
  replace rz := rz.kept bn
  replace hbw := stepB hbw bn
  have n8 : w7.heap.size < w8.heap.size := by have := sn.out; omega
  clear bn sn
  go_wp2
  go_loopw [6] (fun iv wx => ∃ (i : Nat) (H : Nat → Int), i ≤ 128 ∧ iv = .int .i64 (i : Int) ∧ Hid (∀ k, k < 256 → H k = if k < 2 * i then fzF (tm a b) k else 0) ∧ RowAt .i64 22 w.heap.size 256 (gI (fzF a)) wx ∧ RowAt .i64 22 w1.heap.size 256 (gI (fzF b)) wx ∧ RowAt .i64 22 w2.heap.size 256 (gI fun _ => 0) wx ∧ RowAt .i64 22 w7.heap.size 256 (gI H) wx ∧ Below w.heap.size w wx) (fun iv _ => 128 - (intOf iv).toNat)
  case atStart => exact ⟨0, fun _ => 0, by omega, rfl, (by show ∀ k, _; intro k _; rw [if_neg (by omega)]), ra5, rb7, rz, ro, hbw⟩
  case round =>
    obtain ⟨i, H, hi, rfl, HH, ra, rb, rz', ro', hbx⟩ := hrel
    clear ra5 rb7 rz ro hbw
    by_cases hlt : i < 128
    · have hd : decide ((i : Int) < 128) = true := decide_eq_true (by omega)
      have hiI : (i : Int) < 128 := by omega
      obtain ⟨e, o, he, ho, x1, x2, l1, l2, l3, l4⟩ := two_facts i hlt
      have ae := ra.cell (j := e) (by rw [gI_length]; exact l1)
      have ao := ra.cell (j := o) (by rw [gI_length]; exact l2)
      have be := rb.cell (j := e) (by rw [gI_length]; exact l1)
      have bo := rb.cell (j := o) (by rw [gI_length]; exact l2)
      rw [gI_get _ l1] at ae be
      rw [gI_get _ l2] at ao bo
      simp only [fzF] at ae ao be bo
      obtain ⟨m1, m2, r2, m3, s, t, ht, y1, y2, y3, y4, y5, y6, y7, y8⟩ := even_facts (a e) (b e) (a o) (b o) (zr i)
      obtain ⟨k1, k2, s', t', ht', u1, u2, u3, u4, u5⟩ := odd_facts (a e) (b o) (a o) (b e)
      have HHn : Hid (∀ k, k < 256 → (if k = o then ((t' : Nat) : Int) else if k = e then ((t : Nat) : Int) else H k) = if k < 2 * (i + 1) then fzF (tm a b) k else 0) := by
        show ∀ k, _
        intro k hk
        by_cases h1 : k = o
        · rw [if_pos h1, if_pos (by omega), ht', h1]
          simp only [fzF]
          unfold tm
          rw [if_neg (by omega), show o - 1 = e by omega]
        · rw [if_neg h1]
          by_cases h2 : k = e
          · rw [if_pos h2, if_pos (by omega), ht, h2]
            simp only [fzF]
            unfold tm
            rw [if_pos (by omega), show e + 1 = o by omega, show e / 2 = i by omega]
          · rw [if_neg h2, HH.out k hk]
            by_cases h3 : k < 2 * i
            · rw [if_pos h3, if_pos (by omega)]
            · rw [if_neg h3, if_neg (by omega)]
      have L1 : Hid (e < 256) := l1
      have L2 : Hid (o < 256) := l2
      have HAe : Hid (wr.cell? ⟨w.heap.size, e, none⟩ = some (.int .i64 (((a e).val : Nat) : Int))) := ae
      have HAo : Hid (wr.cell? ⟨w.heap.size, o, none⟩ = some (.int .i64 (((a o).val : Nat) : Int))) := ao
      have HBe : Hid (wr.cell? ⟨w1.heap.size, e, none⟩ = some (.int .i64 (((b e).val : Nat) : Int))) := be
      have HBo : Hid (wr.cell? ⟨w1.heap.size, o, none⟩ = some (.int .i64 (((b o).val : Nat) : Int))) := bo
      obtain ⟨zv, hzv⟩ : ∃ zv : Nat, zv = (zr i).val := ⟨_, rfl⟩
      rw [← hzv] at y5
      have HZv : Hid _ := hzv
      generalize (a e).val = A0 at ae y1 u1 HAe
      generalize (a o).val = A1 at ao y2 u2 HAo
      generalize (b e).val = B0 at be y1 u2 HBe
      generalize (b o).val = B1 at bo y2 u1 HBo
      clear ht ht' hzv he ho
      go_wp2_with fail
      have hB : Below wr.heap.size wr wr.drew := (Below.refl _ _).drew
      refine wpF_begin 29 (w0 := wr) (by kernel_rfl) ?_
      refine wpF_pure (hb := .inr hB) (i := 0) (oi := { dst := some 15, op := Op.move (Operand.tmp 6), type := 3, pos := "ref.go:77", after := #[], guard := none }) (v := ?_) rfl (by decide) (by kernel_rfl) (by kernel_rfl) (by kernel_rfl) (by rfl) ?_ ?_
      rotate_left
      · intro W; first | (go_simp; done) | (go_simp; with_reducible rfl)
      try simp only [Act.put, List.setIfInBounds_toArray, List.set_cons_zero, List.set_cons_succ]
      refine wpF_pure (hb := .inr hB) (i := 1) (oi := { dst := some 16, op := Op.binOp BinOp.mul 3 (Operand.const (Value.int IntKind.i64 2)) (Operand.tmp 15) 3, type := 3, pos := "ref.go:77", after := #[{ on := 0, ground := Ground.data }], guard := none }) (v := ?_) rfl (by decide) (by kernel_rfl) (by kernel_rfl) (by kernel_rfl) (by rfl) ?_ ?_
      rotate_left
      · intro W; first | (go_simp; done) | (go_simp; with_reducible rfl)
      try simp only [Act.put, List.setIfInBounds_toArray, List.set_cons_zero, List.set_cons_succ]
      refine wpF_pure (hb := .inr hB) (i := 2) (oi := { dst := some 17, op := Op.move (Operand.tmp 6), type := 3, pos := "ref.go:77", after := #[], guard := none }) (v := ?_) rfl (by decide) (by kernel_rfl) (by kernel_rfl) (by kernel_rfl) (by rfl) ?_ ?_
      rotate_left
      · intro W; first | (go_simp; done) | (go_simp; with_reducible rfl)
      try simp only [Act.put, List.setIfInBounds_toArray, List.set_cons_zero, List.set_cons_succ]
      refine wpF_pure (hb := .inr hB) (i := 3) (oi := { dst := some 18, op := Op.binOp BinOp.mul 3 (Operand.const (Value.int IntKind.i64 2)) (Operand.tmp 17) 3, type := 3, pos := "ref.go:77", after := #[{ on := 2, ground := Ground.data }], guard := none }) (v := ?_) rfl (by decide) (by kernel_rfl) (by kernel_rfl) (by kernel_rfl) (by rfl) ?_ ?_
      rotate_left
      · intro W; first | (go_simp; done) | (go_simp; with_reducible rfl)
      try simp only [Act.put, List.setIfInBounds_toArray, List.set_cons_zero, List.set_cons_succ]
      refine wpF_pure (hb := .inr hB) (i := 4) (oi := { dst := some 19, op := Op.indexAddr 22 (Operand.tmp 2) (Operand.tmp 18), type := 0, pos := "ref.go:77", after := #[{ on := 3, ground := Ground.data }], guard := none }) (v := ?_) rfl (by decide) (by kernel_rfl) (by kernel_rfl) (by kernel_rfl) (by rfl) ?_ ?_
      rotate_left
      · intro W; first | (go_simp; done) | (go_simp; with_reducible rfl)
      try simp only [Act.put, List.setIfInBounds_toArray, List.set_cons_zero, List.set_cons_succ]
      refine wpF_take (hb := hB) (i := 5) (oi := { dst := some 20, op := Op.load 3 (Operand.tmp 19), type := 3, pos := "ref.go:77", after := #[{ on := 4, ground := Ground.data }], guard := none }) (v := ?_) rfl (by decide) (by kernel_rfl) (by kernel_rfl) (by kernel_rfl) (by kernel_rfl) (by kernel_rfl) (by rfl) ?_ ?_
      rotate_left
      · intro W hW; have hcW := cellB11 ae hW; first | (go_simp; done) | (go_simp; with_reducible rfl)
      try simp only [Act.put, List.setIfInBounds_toArray, List.set_cons_zero, List.set_cons_succ]
      refine wpF_pure (hb := .inr hB) (i := 6) (oi := { dst := some 21, op := Op.move (Operand.tmp 6), type := 3, pos := "ref.go:77", after := #[], guard := none }) (v := ?_) rfl (by decide) (by kernel_rfl) (by kernel_rfl) (by kernel_rfl) (by rfl) ?_ ?_
      rotate_left
      · intro W; first | (go_simp; done) | (go_simp; with_reducible rfl)
      try simp only [Act.put, List.setIfInBounds_toArray, List.set_cons_zero, List.set_cons_succ]
      refine wpF_pure (hb := .inr hB) (i := 7) (oi := { dst := some 22, op := Op.binOp BinOp.mul 3 (Operand.const (Value.int IntKind.i64 2)) (Operand.tmp 21) 3, type := 3, pos := "ref.go:77", after := #[{ on := 6, ground := Ground.data }], guard := none }) (v := ?_) rfl (by decide) (by kernel_rfl) (by kernel_rfl) (by kernel_rfl) (by rfl) ?_ ?_
      rotate_left
      · intro W; first | (go_simp; done) | (go_simp; with_reducible rfl)
      try simp only [Act.put, List.setIfInBounds_toArray, List.set_cons_zero, List.set_cons_succ]
      refine wpF_pure (hb := .inr hB) (i := 8) (oi := { dst := some 23, op := Op.indexAddr 22 (Operand.tmp 3) (Operand.tmp 22), type := 0, pos := "ref.go:77", after := #[{ on := 7, ground := Ground.data }], guard := none }) (v := ?_) rfl (by decide) (by kernel_rfl) (by kernel_rfl) (by kernel_rfl) (by rfl) ?_ ?_
      rotate_left
      · intro W; first | (go_simp; done) | (go_simp; with_reducible rfl)
      try simp only [Act.put, List.setIfInBounds_toArray, List.set_cons_zero, List.set_cons_succ]
      refine wpF_take (hb := hB) (i := 9) (oi := { dst := some 24, op := Op.load 3 (Operand.tmp 23), type := 3, pos := "ref.go:77", after := #[{ on := 8, ground := Ground.data }], guard := none }) (v := ?_) rfl (by decide) (by kernel_rfl) (by kernel_rfl) (by kernel_rfl) (by kernel_rfl) (by kernel_rfl) (by rfl) ?_ ?_
      rotate_left
      · intro W hW; have hcW := cellB11 be hW; first | (go_simp; done) | (go_simp; with_reducible rfl)
      try simp only [Act.put, List.setIfInBounds_toArray, List.set_cons_zero, List.set_cons_succ]
      refine wpF_pure (hb := .inr hB) (i := 10) (oi := { dst := some 25, op := Op.binOp BinOp.mul 3 (Operand.tmp 20) (Operand.tmp 24) 3, type := 3, pos := "ref.go:77", after := #[{ on := 5, ground := Ground.data }, { on := 9, ground := Ground.data }], guard := none }) (v := ?_) rfl (by decide) (by kernel_rfl) (by kernel_rfl) (by kernel_rfl) (by rfl) ?_ ?_
      rotate_left
      · intro W; first | (go_simp; done) | (go_simp; with_reducible rfl)
      try simp only [Act.put, List.setIfInBounds_toArray, List.set_cons_zero, List.set_cons_succ]
      refine wpF_pure (hb := .inr hB) (i := 11) (oi := { dst := some 26, op := Op.move (Operand.tmp 6), type := 3, pos := "ref.go:77", after := #[], guard := none }) (v := ?_) rfl (by decide) (by kernel_rfl) (by kernel_rfl) (by kernel_rfl) (by rfl) ?_ ?_
      rotate_left
      · intro W; first | (go_simp; done) | (go_simp; with_reducible rfl)
      try simp only [Act.put, List.setIfInBounds_toArray, List.set_cons_zero, List.set_cons_succ]
      refine wpF_pure (hb := .inr hB) (i := 12) (oi := { dst := some 27, op := Op.binOp BinOp.mul 3 (Operand.const (Value.int IntKind.i64 2)) (Operand.tmp 26) 3, type := 3, pos := "ref.go:77", after := #[{ on := 11, ground := Ground.data }], guard := none }) (v := ?_) rfl (by decide) (by kernel_rfl) (by kernel_rfl) (by kernel_rfl) (by rfl) ?_ ?_
      rotate_left
      · intro W; first | (go_simp; done) | (go_simp; with_reducible rfl)
      try simp only [Act.put, List.setIfInBounds_toArray, List.set_cons_zero, List.set_cons_succ]
      refine wpF_pure (hb := .inr hB) (i := 13) (oi := { dst := some 28, op := Op.binOp BinOp.add 3 (Operand.tmp 27) (Operand.const (Value.int IntKind.i64 1)) 3, type := 3, pos := "ref.go:77", after := #[{ on := 12, ground := Ground.data }], guard := none }) (v := ?_) rfl (by decide) (by kernel_rfl) (by kernel_rfl) (by kernel_rfl) (by rfl) ?_ ?_
      rotate_left
      · intro W; first | (go_simp; done) | (go_simp; with_reducible rfl)
      try simp only [Act.put, List.setIfInBounds_toArray, List.set_cons_zero, List.set_cons_succ]
      refine wpF_pure (hb := .inr hB) (i := 14) (oi := { dst := some 29, op := Op.indexAddr 22 (Operand.tmp 2) (Operand.tmp 28), type := 0, pos := "ref.go:77", after := #[{ on := 13, ground := Ground.data }], guard := none }) (v := ?_) rfl (by decide) (by kernel_rfl) (by kernel_rfl) (by kernel_rfl) (by rfl) ?_ ?_
      rotate_left
      · intro W; first | (go_simp; done) | (go_simp; with_reducible rfl)
      try simp only [Act.put, List.setIfInBounds_toArray, List.set_cons_zero, List.set_cons_succ]
      refine wpF_take (hb := hB) (i := 15) (oi := { dst := some 30, op := Op.load 3 (Operand.tmp 29), type := 3, pos := "ref.go:77", after := #[{ on := 14, ground := Ground.data }], guard := none }) (v := ?_) rfl (by decide) (by kernel_rfl) (by kernel_rfl) (by kernel_rfl) (by kernel_rfl) (by kernel_rfl) (by rfl) ?_ ?_
      rotate_left
      · intro W hW; have hcW := cellB11 ao hW; first | (go_simp; done) | (go_simp; with_reducible rfl)
      try simp only [Act.put, List.setIfInBounds_toArray, List.set_cons_zero, List.set_cons_succ]
      refine wpF_pure (hb := .inr hB) (i := 16) (oi := { dst := some 31, op := Op.move (Operand.tmp 6), type := 3, pos := "ref.go:77", after := #[], guard := none }) (v := ?_) rfl (by decide) (by kernel_rfl) (by kernel_rfl) (by kernel_rfl) (by rfl) ?_ ?_
      rotate_left
      · intro W; first | (go_simp; done) | (go_simp; with_reducible rfl)
      try simp only [Act.put, List.setIfInBounds_toArray, List.set_cons_zero, List.set_cons_succ]
      refine wpF_pure (hb := .inr hB) (i := 17) (oi := { dst := some 32, op := Op.binOp BinOp.mul 3 (Operand.const (Value.int IntKind.i64 2)) (Operand.tmp 31) 3, type := 3, pos := "ref.go:77", after := #[{ on := 16, ground := Ground.data }], guard := none }) (v := ?_) rfl (by decide) (by kernel_rfl) (by kernel_rfl) (by kernel_rfl) (by rfl) ?_ ?_
      rotate_left
      · intro W; first | (go_simp; done) | (go_simp; with_reducible rfl)
      try simp only [Act.put, List.setIfInBounds_toArray, List.set_cons_zero, List.set_cons_succ]
      refine wpF_pure (hb := .inr hB) (i := 18) (oi := { dst := some 33, op := Op.binOp BinOp.add 3 (Operand.tmp 32) (Operand.const (Value.int IntKind.i64 1)) 3, type := 3, pos := "ref.go:77", after := #[{ on := 17, ground := Ground.data }], guard := none }) (v := ?_) rfl (by decide) (by kernel_rfl) (by kernel_rfl) (by kernel_rfl) (by rfl) ?_ ?_
      rotate_left
      · intro W; first | (go_simp; done) | (go_simp; with_reducible rfl)
      try simp only [Act.put, List.setIfInBounds_toArray, List.set_cons_zero, List.set_cons_succ]
      refine wpF_pure (hb := .inr hB) (i := 19) (oi := { dst := some 34, op := Op.indexAddr 22 (Operand.tmp 3) (Operand.tmp 33), type := 0, pos := "ref.go:77", after := #[{ on := 18, ground := Ground.data }], guard := none }) (v := ?_) rfl (by decide) (by kernel_rfl) (by kernel_rfl) (by kernel_rfl) (by rfl) ?_ ?_
      rotate_left
      · intro W; first | (go_simp; done) | (go_simp; with_reducible rfl)
      try simp only [Act.put, List.setIfInBounds_toArray, List.set_cons_zero, List.set_cons_succ]
      refine wpF_take (hb := hB) (i := 20) (oi := { dst := some 35, op := Op.load 3 (Operand.tmp 34), type := 3, pos := "ref.go:77", after := #[{ on := 19, ground := Ground.data }], guard := none }) (v := ?_) rfl (by decide) (by kernel_rfl) (by kernel_rfl) (by kernel_rfl) (by kernel_rfl) (by kernel_rfl) (by rfl) ?_ ?_
      rotate_left
      · intro W hW; have hcW := cellB11 bo hW; first | (go_simp; done) | (go_simp; with_reducible rfl)
      try simp only [Act.put, List.setIfInBounds_toArray, List.set_cons_zero, List.set_cons_succ]
      refine wpF_pure (hb := .inr hB) (i := 21) (oi := { dst := some 36, op := Op.binOp BinOp.mul 3 (Operand.tmp 30) (Operand.tmp 35) 3, type := 3, pos := "ref.go:77", after := #[{ on := 15, ground := Ground.data }, { on := 20, ground := Ground.data }], guard := none }) (v := ?_) rfl (by decide) (by kernel_rfl) (by kernel_rfl) (by kernel_rfl) (by rfl) ?_ ?_
      rotate_left
      · intro W; first | (go_simp; done) | (go_simp; with_reducible rfl)
      try simp only [Act.put, List.setIfInBounds_toArray, List.set_cons_zero, List.set_cons_succ]
      refine wpF_pure (hb := .inr hB) (i := 22) (oi := { dst := some 37, op := Op.binOp BinOp.rem 3 (Operand.tmp 36) (Operand.const (Value.int IntKind.i64 3329)) 3, type := 3, pos := "ref.go:77", after := #[{ on := 21, ground := Ground.data }], guard := none }) (v := ?_) rfl (by decide) (by kernel_rfl) (by kernel_rfl) (by kernel_rfl) (by rfl) ?_ ?_
      rotate_left
      · intro W; first | (go_simp; done) | (go_simp; with_reducible rfl)
      try simp only [Act.put, List.setIfInBounds_toArray, List.set_cons_zero, List.set_cons_succ]
      refine wpF_pure (hb := .inr hB) (i := 23) (oi := { dst := some 38, op := Op.move (Operand.tmp 6), type := 3, pos := "ref.go:77", after := #[], guard := none }) (v := ?_) rfl (by decide) (by kernel_rfl) (by kernel_rfl) (by kernel_rfl) (by rfl) ?_ ?_
      rotate_left
      · intro W; first | (go_simp; done) | (go_simp; with_reducible rfl)
      try simp only [Act.put, List.setIfInBounds_toArray, List.set_cons_zero, List.set_cons_succ]
      refine wpF_do (i := 24) (o := { dst := some 39, op := Op.call { callee := Callee.value (Operand.func 36), args := #[Operand.tmp 38], argTypes := #[3] }, type := 3, pos := "ref.go:77", after := #[{ on := 23, ground := Ground.data }], guard := none }) (by kernel_rfl) rfl (by rfl) fun K hK => ?_
      go_simp
      refine (root11_any i hlt _ rfl _).mono ?_
      rintro e1 wq ⟨rfl, rfl⟩
      rw [← HZv.out]
      refine hK.out _ _ (.inr hB) ?_
      clear hK K
      try simp only [Act.put, List.setIfInBounds_toArray, List.set_cons_zero, List.set_cons_succ]
      refine wpF_pure (hb := .inr hB) (i := 25) (oi := { dst := some 40, op := Op.binOp BinOp.mul 3 (Operand.tmp 37) (Operand.tmp 39) 3, type := 3, pos := "ref.go:77", after := #[{ on := 22, ground := Ground.data }, { on := 24, ground := Ground.data }], guard := none }) (v := ?_) rfl (by decide) (by kernel_rfl) (by kernel_rfl) (by kernel_rfl) (by rfl) ?_ ?_
      rotate_left
      · intro W; first | (go_simp; done) | (go_simp; with_reducible rfl)
      try simp only [Act.put, List.setIfInBounds_toArray, List.set_cons_zero, List.set_cons_succ]
      refine wpF_pure (hb := .inr hB) (i := 26) (oi := { dst := some 41, op := Op.binOp BinOp.add 3 (Operand.tmp 25) (Operand.tmp 40) 3, type := 3, pos := "ref.go:77", after := #[{ on := 10, ground := Ground.data }, { on := 25, ground := Ground.data }], guard := none }) (v := ?_) rfl (by decide) (by kernel_rfl) (by kernel_rfl) (by kernel_rfl) (by rfl) ?_ ?_
      rotate_left
      · intro W; first | (go_simp; done) | (go_simp; with_reducible rfl)
      try simp only [Act.put, List.setIfInBounds_toArray, List.set_cons_zero, List.set_cons_succ]
      refine wpF_pure (hb := .inr hB) (i := 27) (oi := { dst := some 42, op := Op.binOp BinOp.rem 3 (Operand.tmp 41) (Operand.const (Value.int IntKind.i64 3329)) 3, type := 3, pos := "ref.go:77", after := #[{ on := 26, ground := Ground.data }], guard := none }) (v := ?_) rfl (by decide) (by kernel_rfl) (by kernel_rfl) (by kernel_rfl) (by rfl) ?_ ?_
      rotate_left
      · intro W; first | (go_simp; done) | (go_simp; with_reducible rfl)
      try simp only [Act.put, List.setIfInBounds_toArray, List.set_cons_zero, List.set_cons_succ]
      refine wpF_pure (hb := .inr hB) (i := 28) (oi := { dst := some 43, op := Op.indexAddr 22 (Operand.tmp 5) (Operand.tmp 16), type := 0, pos := "ref.go:77", after := #[{ on := 1, ground := Ground.data }, { on := 0, ground := Ground.phase }, { on := 1, ground := Ground.phase }, { on := 2, ground := Ground.phase }, { on := 3, ground := Ground.phase }, { on := 4, ground := Ground.phase }, { on := 5, ground := Ground.phase }, { on := 6, ground := Ground.phase }, { on := 7, ground := Ground.phase }, { on := 8, ground := Ground.phase }, { on := 9, ground := Ground.phase }, { on := 10, ground := Ground.phase }, { on := 11, ground := Ground.phase }, { on := 12, ground := Ground.phase }, { on := 13, ground := Ground.phase }, { on := 14, ground := Ground.phase }, { on := 15, ground := Ground.phase }, { on := 16, ground := Ground.phase }, { on := 17, ground := Ground.phase }, { on := 18, ground := Ground.phase }, { on := 19, ground := Ground.phase }, { on := 20, ground := Ground.phase }, { on := 21, ground := Ground.phase }, { on := 22, ground := Ground.phase }, { on := 23, ground := Ground.phase }, { on := 24, ground := Ground.phase }, { on := 25, ground := Ground.phase }, { on := 26, ground := Ground.phase }, { on := 27, ground := Ground.phase }], guard := none }) (v := ?_) rfl (by decide) (by kernel_rfl) (by kernel_rfl) (by kernel_rfl) (by rfl) ?_ ?_
      rotate_left
      · intro W; first | (go_simp; done) | (go_simp; with_reducible rfl)
      try simp only [Act.put, List.setIfInBounds_toArray, List.set_cons_zero, List.set_cons_succ]
      refine wpF_do (i := 29) (o := { dst := none, op := Op.store 3 (Operand.tmp 43) (Operand.tmp 42), type := 0, pos := "ref.go:77", after := #[{ on := 28, ground := Ground.data }, { on := 27, ground := Ground.data }, { on := 24, ground := Ground.chain }, { on := 0, ground := Ground.phase }, { on := 1, ground := Ground.phase }, { on := 2, ground := Ground.phase }, { on := 3, ground := Ground.phase }, { on := 4, ground := Ground.phase }, { on := 5, ground := Ground.phase }, { on := 6, ground := Ground.phase }, { on := 7, ground := Ground.phase }, { on := 8, ground := Ground.phase }, { on := 9, ground := Ground.phase }, { on := 10, ground := Ground.phase }, { on := 11, ground := Ground.phase }, { on := 12, ground := Ground.phase }, { on := 13, ground := Ground.phase }, { on := 14, ground := Ground.phase }, { on := 15, ground := Ground.phase }, { on := 16, ground := Ground.phase }, { on := 17, ground := Ground.phase }, { on := 18, ground := Ground.phase }, { on := 19, ground := Ground.phase }, { on := 20, ground := Ground.phase }, { on := 21, ground := Ground.phase }, { on := 22, ground := Ground.phase }, { on := 23, ground := Ground.phase }, { on := 24, ground := Ground.phase }, { on := 25, ground := Ground.phase }, { on := 26, ground := Ground.phase }, { on := 27, ground := Ground.phase }], guard := none }) (by kernel_rfl) rfl (by rfl) fun K hK => ?_
      refine wp_store_int _ _ (by rfl) (by rfl) (t : Int) (by rfl) ro'.drew (by rw [gI_length]; exact L1.out) ?_
      intro w9 r9 hw9
      rw [gI_set] at r9
      refine hK.out _ _ (.inl rfl) ?_
      clear hK K
      try simp only [Act.put, List.setIfInBounds_toArray, List.set_cons_zero, List.set_cons_succ]
      refine wpF_done (by kernel_rfl) ?_
      have hw10 := hw9.ofdrew11
      have ra9 := ra.wrote hw10 (by omega)
      have rb9 := rb.wrote hw10 (by omega)
      have rz9 := rz'.wrote hw10 (by omega)
      have hb9 := hw10.below _ _ (by omega) hbx
      have keep : ∀ {g k : Nat} {v : Value}, g < w7.heap.size → wr.cell? ⟨g, k, none⟩ = some v → w9.cell? ⟨g, k, none⟩ = some v := fun {g k v} hg hc => by
        have := hw10.other g (by omega)
        simp only [World.cell?] at hc ⊢
        rw [this]
        exact hc
      have ae9 := keep (by omega) HAe.out
      have ao9 := keep (by omega) HAo.out
      have be9 := keep (by omega) HBe.out
      have bo9 := keep (by omega) HBo.out
      clear ra rb rz' ro' hbx ae ao be bo hw9 hw10 keep HAe HAo HBe HBo hB
      rename World => wx
      go_wp2_with fail
      have hB : Below wx.heap.size wx wx.drew := (Below.refl _ _).drew
      refine wpF_begin 26 (w0 := wx) (by kernel_rfl) ?_
      refine wpF_pure (hb := .inr hB) (i := 0) (oi := { dst := some 44, op := Op.move (Operand.tmp 6), type := 3, pos := "ref.go:78", after := #[], guard := none }) (v := ?_) rfl (by decide) (by kernel_rfl) (by kernel_rfl) (by kernel_rfl) (by rfl) ?_ ?_
      rotate_left
      · intro W; first | (go_simp; done) | (go_simp; with_reducible rfl)
      try simp only [Act.put, List.setIfInBounds_toArray, List.set_cons_zero, List.set_cons_succ]
      refine wpF_pure (hb := .inr hB) (i := 1) (oi := { dst := some 45, op := Op.binOp BinOp.mul 3 (Operand.const (Value.int IntKind.i64 2)) (Operand.tmp 44) 3, type := 3, pos := "ref.go:78", after := #[{ on := 0, ground := Ground.data }], guard := none }) (v := ?_) rfl (by decide) (by kernel_rfl) (by kernel_rfl) (by kernel_rfl) (by rfl) ?_ ?_
      rotate_left
      · intro W; first | (go_simp; done) | (go_simp; with_reducible rfl)
      try simp only [Act.put, List.setIfInBounds_toArray, List.set_cons_zero, List.set_cons_succ]
      refine wpF_pure (hb := .inr hB) (i := 2) (oi := { dst := some 46, op := Op.binOp BinOp.add 3 (Operand.tmp 45) (Operand.const (Value.int IntKind.i64 1)) 3, type := 3, pos := "ref.go:78", after := #[{ on := 1, ground := Ground.data }], guard := none }) (v := ?_) rfl (by decide) (by kernel_rfl) (by kernel_rfl) (by kernel_rfl) (by rfl) ?_ ?_
      rotate_left
      · intro W; first | (go_simp; done) | (go_simp; with_reducible rfl)
      try simp only [Act.put, List.setIfInBounds_toArray, List.set_cons_zero, List.set_cons_succ]
      refine wpF_pure (hb := .inr hB) (i := 3) (oi := { dst := some 47, op := Op.move (Operand.tmp 6), type := 3, pos := "ref.go:78", after := #[], guard := none }) (v := ?_) rfl (by decide) (by kernel_rfl) (by kernel_rfl) (by kernel_rfl) (by rfl) ?_ ?_
      rotate_left
      · intro W; first | (go_simp; done) | (go_simp; with_reducible rfl)
      try simp only [Act.put, List.setIfInBounds_toArray, List.set_cons_zero, List.set_cons_succ]
      refine wpF_pure (hb := .inr hB) (i := 4) (oi := { dst := some 48, op := Op.binOp BinOp.mul 3 (Operand.const (Value.int IntKind.i64 2)) (Operand.tmp 47) 3, type := 3, pos := "ref.go:78", after := #[{ on := 3, ground := Ground.data }], guard := none }) (v := ?_) rfl (by decide) (by kernel_rfl) (by kernel_rfl) (by kernel_rfl) (by rfl) ?_ ?_
      rotate_left
      · intro W; first | (go_simp; done) | (go_simp; with_reducible rfl)
      try simp only [Act.put, List.setIfInBounds_toArray, List.set_cons_zero, List.set_cons_succ]
      refine wpF_pure (hb := .inr hB) (i := 5) (oi := { dst := some 49, op := Op.indexAddr 22 (Operand.tmp 2) (Operand.tmp 48), type := 0, pos := "ref.go:78", after := #[{ on := 4, ground := Ground.data }], guard := none }) (v := ?_) rfl (by decide) (by kernel_rfl) (by kernel_rfl) (by kernel_rfl) (by rfl) ?_ ?_
      rotate_left
      · intro W; first | (go_simp; done) | (go_simp; with_reducible rfl)
      try simp only [Act.put, List.setIfInBounds_toArray, List.set_cons_zero, List.set_cons_succ]
      refine wpF_take (hb := hB) (i := 6) (oi := { dst := some 50, op := Op.load 3 (Operand.tmp 49), type := 3, pos := "ref.go:78", after := #[{ on := 5, ground := Ground.data }], guard := none }) (v := ?_) rfl (by decide) (by kernel_rfl) (by kernel_rfl) (by kernel_rfl) (by kernel_rfl) (by kernel_rfl) (by rfl) ?_ ?_
      rotate_left
      · intro W hW; have hcW := cellB11 ae9 hW; first | (go_simp; done) | (go_simp; with_reducible rfl)
      try simp only [Act.put, List.setIfInBounds_toArray, List.set_cons_zero, List.set_cons_succ]
      refine wpF_pure (hb := .inr hB) (i := 7) (oi := { dst := some 51, op := Op.move (Operand.tmp 6), type := 3, pos := "ref.go:78", after := #[], guard := none }) (v := ?_) rfl (by decide) (by kernel_rfl) (by kernel_rfl) (by kernel_rfl) (by rfl) ?_ ?_
      rotate_left
      · intro W; first | (go_simp; done) | (go_simp; with_reducible rfl)
      try simp only [Act.put, List.setIfInBounds_toArray, List.set_cons_zero, List.set_cons_succ]
      refine wpF_pure (hb := .inr hB) (i := 8) (oi := { dst := some 52, op := Op.binOp BinOp.mul 3 (Operand.const (Value.int IntKind.i64 2)) (Operand.tmp 51) 3, type := 3, pos := "ref.go:78", after := #[{ on := 7, ground := Ground.data }], guard := none }) (v := ?_) rfl (by decide) (by kernel_rfl) (by kernel_rfl) (by kernel_rfl) (by rfl) ?_ ?_
      rotate_left
      · intro W; first | (go_simp; done) | (go_simp; with_reducible rfl)
      try simp only [Act.put, List.setIfInBounds_toArray, List.set_cons_zero, List.set_cons_succ]
      refine wpF_pure (hb := .inr hB) (i := 9) (oi := { dst := some 53, op := Op.binOp BinOp.add 3 (Operand.tmp 52) (Operand.const (Value.int IntKind.i64 1)) 3, type := 3, pos := "ref.go:78", after := #[{ on := 8, ground := Ground.data }], guard := none }) (v := ?_) rfl (by decide) (by kernel_rfl) (by kernel_rfl) (by kernel_rfl) (by rfl) ?_ ?_
      rotate_left
      · intro W; first | (go_simp; done) | (go_simp; with_reducible rfl)
      try simp only [Act.put, List.setIfInBounds_toArray, List.set_cons_zero, List.set_cons_succ]
      refine wpF_pure (hb := .inr hB) (i := 10) (oi := { dst := some 54, op := Op.indexAddr 22 (Operand.tmp 3) (Operand.tmp 53), type := 0, pos := "ref.go:78", after := #[{ on := 9, ground := Ground.data }], guard := none }) (v := ?_) rfl (by decide) (by kernel_rfl) (by kernel_rfl) (by kernel_rfl) (by rfl) ?_ ?_
      rotate_left
      · intro W; first | (go_simp; done) | (go_simp; with_reducible rfl)
      try simp only [Act.put, List.setIfInBounds_toArray, List.set_cons_zero, List.set_cons_succ]
      refine wpF_take (hb := hB) (i := 11) (oi := { dst := some 55, op := Op.load 3 (Operand.tmp 54), type := 3, pos := "ref.go:78", after := #[{ on := 10, ground := Ground.data }], guard := none }) (v := ?_) rfl (by decide) (by kernel_rfl) (by kernel_rfl) (by kernel_rfl) (by kernel_rfl) (by kernel_rfl) (by rfl) ?_ ?_
      rotate_left
      · intro W hW; have hcW := cellB11 bo9 hW; first | (go_simp; done) | (go_simp; with_reducible rfl)
      try simp only [Act.put, List.setIfInBounds_toArray, List.set_cons_zero, List.set_cons_succ]
      refine wpF_pure (hb := .inr hB) (i := 12) (oi := { dst := some 56, op := Op.binOp BinOp.mul 3 (Operand.tmp 50) (Operand.tmp 55) 3, type := 3, pos := "ref.go:78", after := #[{ on := 6, ground := Ground.data }, { on := 11, ground := Ground.data }], guard := none }) (v := ?_) rfl (by decide) (by kernel_rfl) (by kernel_rfl) (by kernel_rfl) (by rfl) ?_ ?_
      rotate_left
      · intro W; first | (go_simp; done) | (go_simp; with_reducible rfl)
      try simp only [Act.put, List.setIfInBounds_toArray, List.set_cons_zero, List.set_cons_succ]
      refine wpF_pure (hb := .inr hB) (i := 13) (oi := { dst := some 57, op := Op.move (Operand.tmp 6), type := 3, pos := "ref.go:78", after := #[], guard := none }) (v := ?_) rfl (by decide) (by kernel_rfl) (by kernel_rfl) (by kernel_rfl) (by rfl) ?_ ?_
      rotate_left
      · intro W; first | (go_simp; done) | (go_simp; with_reducible rfl)
      try simp only [Act.put, List.setIfInBounds_toArray, List.set_cons_zero, List.set_cons_succ]
      refine wpF_pure (hb := .inr hB) (i := 14) (oi := { dst := some 58, op := Op.binOp BinOp.mul 3 (Operand.const (Value.int IntKind.i64 2)) (Operand.tmp 57) 3, type := 3, pos := "ref.go:78", after := #[{ on := 13, ground := Ground.data }], guard := none }) (v := ?_) rfl (by decide) (by kernel_rfl) (by kernel_rfl) (by kernel_rfl) (by rfl) ?_ ?_
      rotate_left
      · intro W; first | (go_simp; done) | (go_simp; with_reducible rfl)
      try simp only [Act.put, List.setIfInBounds_toArray, List.set_cons_zero, List.set_cons_succ]
      refine wpF_pure (hb := .inr hB) (i := 15) (oi := { dst := some 59, op := Op.binOp BinOp.add 3 (Operand.tmp 58) (Operand.const (Value.int IntKind.i64 1)) 3, type := 3, pos := "ref.go:78", after := #[{ on := 14, ground := Ground.data }], guard := none }) (v := ?_) rfl (by decide) (by kernel_rfl) (by kernel_rfl) (by kernel_rfl) (by rfl) ?_ ?_
      rotate_left
      · intro W; first | (go_simp; done) | (go_simp; with_reducible rfl)
      try simp only [Act.put, List.setIfInBounds_toArray, List.set_cons_zero, List.set_cons_succ]
      refine wpF_pure (hb := .inr hB) (i := 16) (oi := { dst := some 60, op := Op.indexAddr 22 (Operand.tmp 2) (Operand.tmp 59), type := 0, pos := "ref.go:78", after := #[{ on := 15, ground := Ground.data }], guard := none }) (v := ?_) rfl (by decide) (by kernel_rfl) (by kernel_rfl) (by kernel_rfl) (by rfl) ?_ ?_
      rotate_left
      · intro W; first | (go_simp; done) | (go_simp; with_reducible rfl)
      try simp only [Act.put, List.setIfInBounds_toArray, List.set_cons_zero, List.set_cons_succ]
      refine wpF_take (hb := hB) (i := 17) (oi := { dst := some 61, op := Op.load 3 (Operand.tmp 60), type := 3, pos := "ref.go:78", after := #[{ on := 16, ground := Ground.data }], guard := none }) (v := ?_) rfl (by decide) (by kernel_rfl) (by kernel_rfl) (by kernel_rfl) (by kernel_rfl) (by kernel_rfl) (by rfl) ?_ ?_
      rotate_left
      · intro W hW; have hcW := cellB11 ao9 hW; first | (go_simp; done) | (go_simp; with_reducible rfl)
      try simp only [Act.put, List.setIfInBounds_toArray, List.set_cons_zero, List.set_cons_succ]
      refine wpF_pure (hb := .inr hB) (i := 18) (oi := { dst := some 62, op := Op.move (Operand.tmp 6), type := 3, pos := "ref.go:78", after := #[], guard := none }) (v := ?_) rfl (by decide) (by kernel_rfl) (by kernel_rfl) (by kernel_rfl) (by rfl) ?_ ?_
      rotate_left
      · intro W; first | (go_simp; done) | (go_simp; with_reducible rfl)
      try simp only [Act.put, List.setIfInBounds_toArray, List.set_cons_zero, List.set_cons_succ]
      refine wpF_pure (hb := .inr hB) (i := 19) (oi := { dst := some 63, op := Op.binOp BinOp.mul 3 (Operand.const (Value.int IntKind.i64 2)) (Operand.tmp 62) 3, type := 3, pos := "ref.go:78", after := #[{ on := 18, ground := Ground.data }], guard := none }) (v := ?_) rfl (by decide) (by kernel_rfl) (by kernel_rfl) (by kernel_rfl) (by rfl) ?_ ?_
      rotate_left
      · intro W; first | (go_simp; done) | (go_simp; with_reducible rfl)
      try simp only [Act.put, List.setIfInBounds_toArray, List.set_cons_zero, List.set_cons_succ]
      refine wpF_pure (hb := .inr hB) (i := 20) (oi := { dst := some 64, op := Op.indexAddr 22 (Operand.tmp 3) (Operand.tmp 63), type := 0, pos := "ref.go:78", after := #[{ on := 19, ground := Ground.data }], guard := none }) (v := ?_) rfl (by decide) (by kernel_rfl) (by kernel_rfl) (by kernel_rfl) (by rfl) ?_ ?_
      rotate_left
      · intro W; first | (go_simp; done) | (go_simp; with_reducible rfl)
      try simp only [Act.put, List.setIfInBounds_toArray, List.set_cons_zero, List.set_cons_succ]
      refine wpF_take (hb := hB) (i := 21) (oi := { dst := some 65, op := Op.load 3 (Operand.tmp 64), type := 3, pos := "ref.go:78", after := #[{ on := 20, ground := Ground.data }], guard := none }) (v := ?_) rfl (by decide) (by kernel_rfl) (by kernel_rfl) (by kernel_rfl) (by kernel_rfl) (by kernel_rfl) (by rfl) ?_ ?_
      rotate_left
      · intro W hW; have hcW := cellB11 be9 hW; first | (go_simp; done) | (go_simp; with_reducible rfl)
      try simp only [Act.put, List.setIfInBounds_toArray, List.set_cons_zero, List.set_cons_succ]
      refine wpF_pure (hb := .inr hB) (i := 22) (oi := { dst := some 66, op := Op.binOp BinOp.mul 3 (Operand.tmp 61) (Operand.tmp 65) 3, type := 3, pos := "ref.go:78", after := #[{ on := 17, ground := Ground.data }, { on := 21, ground := Ground.data }], guard := none }) (v := ?_) rfl (by decide) (by kernel_rfl) (by kernel_rfl) (by kernel_rfl) (by rfl) ?_ ?_
      rotate_left
      · intro W; first | (go_simp; done) | (go_simp; with_reducible rfl)
      try simp only [Act.put, List.setIfInBounds_toArray, List.set_cons_zero, List.set_cons_succ]
      refine wpF_pure (hb := .inr hB) (i := 23) (oi := { dst := some 67, op := Op.binOp BinOp.add 3 (Operand.tmp 56) (Operand.tmp 66) 3, type := 3, pos := "ref.go:78", after := #[{ on := 12, ground := Ground.data }, { on := 22, ground := Ground.data }], guard := none }) (v := ?_) rfl (by decide) (by kernel_rfl) (by kernel_rfl) (by kernel_rfl) (by rfl) ?_ ?_
      rotate_left
      · intro W; first | (go_simp; done) | (go_simp; with_reducible rfl)
      try simp only [Act.put, List.setIfInBounds_toArray, List.set_cons_zero, List.set_cons_succ]
      refine wpF_pure (hb := .inr hB) (i := 24) (oi := { dst := some 68, op := Op.binOp BinOp.rem 3 (Operand.tmp 67) (Operand.const (Value.int IntKind.i64 3329)) 3, type := 3, pos := "ref.go:78", after := #[{ on := 23, ground := Ground.data }], guard := none }) (v := ?_) rfl (by decide) (by kernel_rfl) (by kernel_rfl) (by kernel_rfl) (by rfl) ?_ ?_
      rotate_left
      · intro W; first | (go_simp; done) | (go_simp; with_reducible rfl)
      try simp only [Act.put, List.setIfInBounds_toArray, List.set_cons_zero, List.set_cons_succ]
      refine wpF_pure (hb := .inr hB) (i := 25) (oi := { dst := some 69, op := Op.indexAddr 22 (Operand.tmp 5) (Operand.tmp 46), type := 0, pos := "ref.go:78", after := #[{ on := 2, ground := Ground.data }, { on := 0, ground := Ground.phase }, { on := 1, ground := Ground.phase }, { on := 2, ground := Ground.phase }, { on := 3, ground := Ground.phase }, { on := 4, ground := Ground.phase }, { on := 5, ground := Ground.phase }, { on := 6, ground := Ground.phase }, { on := 7, ground := Ground.phase }, { on := 8, ground := Ground.phase }, { on := 9, ground := Ground.phase }, { on := 10, ground := Ground.phase }, { on := 11, ground := Ground.phase }, { on := 12, ground := Ground.phase }, { on := 13, ground := Ground.phase }, { on := 14, ground := Ground.phase }, { on := 15, ground := Ground.phase }, { on := 16, ground := Ground.phase }, { on := 17, ground := Ground.phase }, { on := 18, ground := Ground.phase }, { on := 19, ground := Ground.phase }, { on := 20, ground := Ground.phase }, { on := 21, ground := Ground.phase }, { on := 22, ground := Ground.phase }, { on := 23, ground := Ground.phase }, { on := 24, ground := Ground.phase }], guard := none }) (v := ?_) rfl (by decide) (by kernel_rfl) (by kernel_rfl) (by kernel_rfl) (by rfl) ?_ ?_
      rotate_left
      · intro W; first | (go_simp; done) | (go_simp; with_reducible rfl)
      try simp only [Act.put, List.setIfInBounds_toArray, List.set_cons_zero, List.set_cons_succ]
      refine wpF_do (i := 26) (o := { dst := none, op := Op.store 3 (Operand.tmp 69) (Operand.tmp 68), type := 0, pos := "ref.go:78", after := #[{ on := 25, ground := Ground.data }, { on := 24, ground := Ground.data }, { on := 0, ground := Ground.phase }, { on := 1, ground := Ground.phase }, { on := 2, ground := Ground.phase }, { on := 3, ground := Ground.phase }, { on := 4, ground := Ground.phase }, { on := 5, ground := Ground.phase }, { on := 6, ground := Ground.phase }, { on := 7, ground := Ground.phase }, { on := 8, ground := Ground.phase }, { on := 9, ground := Ground.phase }, { on := 10, ground := Ground.phase }, { on := 11, ground := Ground.phase }, { on := 12, ground := Ground.phase }, { on := 13, ground := Ground.phase }, { on := 14, ground := Ground.phase }, { on := 15, ground := Ground.phase }, { on := 16, ground := Ground.phase }, { on := 17, ground := Ground.phase }, { on := 18, ground := Ground.phase }, { on := 19, ground := Ground.phase }, { on := 20, ground := Ground.phase }, { on := 21, ground := Ground.phase }, { on := 22, ground := Ground.phase }, { on := 23, ground := Ground.phase }, { on := 24, ground := Ground.phase }], guard := none }) (by kernel_rfl) rfl (by rfl) fun K hK => ?_
      refine wp_store_int _ _ (by rfl) (by rfl) (t' : Int) (by rfl) r9.drew (by rw [gI_length]; exact L2.out) ?_
      intro w11 r11 hw11
      rw [gI_set] at r11
      refine hK.out _ _ (.inl rfl) ?_
      clear hK K
      try simp only [Act.put, List.setIfInBounds_toArray, List.set_cons_zero, List.set_cons_succ]
      refine wpF_done (by kernel_rfl) ?_
      have hw12 := hw11.ofdrew11
      have ra12 := ra9.wrote hw12 (by omega)
      have rb12 := rb9.wrote hw12 (by omega)
      have rz12 := rz9.wrote hw12 (by omega)
      have hb12 := hw12.below _ _ (by omega) hb9
      clear ra9 rb9 rz9 r9 hb9 ae9 ao9 be9 bo9 hw11 hw12
      go_wp2
      go_roundw
      case rel => exact ⟨i + 1, _, by omega, by go_num, HHn, ra12, rb12, rz12, r11, hb12⟩
      case measure => simp [intOf] <;> omega
    · have hie : i = 128 := by omega
      have hd : decide ((i : Int) < 128) = false := decide_eq_false (by omega)
      have hiI : (128 : Int) ≤ (i : Int) := by omega
      have HE : Hid (gI H = gI (fzF (tm a b))) := by
        show _ = _
        exact gI_congr fun k hk => by rw [HH.out k hk, if_pos (by omega)]
      clear hie
      rw [HE.out] at ro'
      go_wp2_with (first | refine wpList_load_row rfl 22 _ rfl rfl ro' _ Tryd.underlying22 rfl (poInfo _) ?_ | (refine wpList_store_row rfl 22 _ _ rfl (gI (fzF (tm a b))) rfl rfl rz' (by rw [gI_length, gI_length]) (poInfo _) ?_; intro w9 r9 hw9))
      refine bodyPost_row (k := .i64) rfl rfl rfl r9 Tryd.underlying22 rfl (poInfo _) ?_
      exact ⟨by rw [HA.out, HB.out], hw9.below _ _ (by omega) hbx⟩
end Go.Proofs.YtbladcgdbhogcaaDoor
