/- The walk of the law SampleBack. -/
import Derived.Test.YtlcnepnappfjeaaDoorL12h
import Derived.Test.YtlcnepnappfjeaaDoorL12i
import Derived.Test.YtlcnepnappfjeaaDoorL12d
import Derived.Test.YtlcnepnappfjeaaDoorRef11a
import Derived.Test.YtlcnepnappfjeaaDoorNum
namespace Go.Proofs.YtlcnepnappfjeaaDoor
open Go.ChangeShapes Go.WideShapes Go.ChangeAt Go.RowKit
set_option linter.unusedSimpArgs false
set_option linter.unusedVariables false

theorem neS {l : List UInt8} (h : l.length = 384) : byI l ≠ [] := byI_ne fun e => by rw [e] at h; cases h
theorem mxS {l : List UInt8} (h : l.length = 384) : (byI l).length ≤ maxLen := by rw [byI_length, h]; decide
theorem rF_valS (F : Nat → Int) (k : Nat) : (rF F k).val = rsZ (F k) := by
  unfold rF
  rw [nz_val]
  exact Nat.mod_eq_of_lt (rsZ_lt _)
theorem rb12 (F : Nat → Int) : rF F = rbF 12 F := by
  funext k
  refine Fin.ext ?_
  rw [rbF_12]
  unfold rF
  rw [nz_val]
  exact Nat.mod_eq_of_lt (rsZ_lt _)
theorem dc_po (D : Int) (G : Nat → Int) : Po fun k => ((dcA D (G k) : Nat) : Int) := ⟨fun k => dcA_in64 D (G k)⟩
/-- One rest by d bits. -/
theorem mask_facts (d x : Nat) (h1 : 1 ≤ d) (h2 : d ≤ 11) (hx : x < 3329) : ∃ T y : Nat, (2 : Int) ^ d = (T : Int) ∧ IntKind.i64.wrap (T : Int) = (T : Int) ∧ IntKind.i64.wrap ((T : Int) - 1) = (T : Int) - 1 ∧ bits .and .i64 (x : Int) ((T : Int) - 1) = (y : Int) ∧ y = x % 2 ^ d := by
  have h3 : 2 ^ d ≤ 2 ^ 11 := Nat.pow_le_pow_right (by decide) h2
  have h4 : (2 : Nat) ^ 11 = 2048 := by decide
  have h5 : 1 ≤ 2 ^ d := Nat.pow_pos (by decide)
  have ha := and_low d (by omega) (x : Int) (by omega)
  rw [show (((2 ^ d - 1 : Nat)) : Int) = ((2 ^ d : Nat) : Int) - 1 by omega] at ha
  refine ⟨2 ^ d, x % 2 ^ d, by simp, IntWalk.i64_in _ (by omega), IntWalk.i64_in _ (by omega), ?_, rfl⟩
  rw [ha]
  unfold twZ
  rw [← Int.natCast_emod, Int.toNat_natCast]

set_option maxRecDepth 100000 in
set_option maxHeartbeats 8000000 in
theorem back_out (D : Int) (h : ¬ (1 ≤ D ∧ D ≤ 12)) (A : Array Value) (F : Nat → Int) (hA : A = ((gI F).map (Value.int .i64)).toArray) (C : Array Value) (l : List UInt8) (hl : l.length = 384) (hC : C = ((byI l).map (Value.int .u8)).toArray) (w : World) (hT : Tabs w) :
    Calls Tryd.prog 7 #[.int .i64 D, .agg A, .agg C] w fun e w' => e = .returned (.bool true) ∧ Below w.heap.size w w' := by
  have HD : Hid (¬ (1 ≤ D ∧ D ≤ 12)) := by intro e; exact h e
  have hcase : (decide (D < 1) = true ∧ D < 1) ∨ (decide (D < 1) = false ∧ decide (12 < D) = true ∧ 1 ≤ D ∧ 12 < D) := by
    by_cases h1 : D < 1
    · exact .inl ⟨decide_eq_true h1, h1⟩
    · exact .inr ⟨decide_eq_false h1, decide_eq_true (by omega), by omega, by omega⟩
  have HL : Hid (l.length = 384) := hl
  clear h hl
  go_enter Tryd.func7, Tryd.ntmps7
  go_wp2_with (refine wpList_box_row (k := .i64) rfl 24 _ rfl (gI F) (by rw [← hA]; rfl) (gI_ne _) (poMax _) ?_)
  intro x1 qF bn sn
  rw [gI_length] at qF
  have hbw := bn
  clear bn sn hA
  go_wp2_with (refine wpList_box_row (k := .u8) rfl 43 _ rfl (byI l) (by rw [← hC]; rfl) (neS HL.out) (mxS HL.out) ?_)
  intro x2 rb bn sn
  replace qF := qF.kept bn
  replace hbw := stepB hbw bn
  clear bn sn hC rb
  go_wp2_with fail
  refine (awake_any _ (hT.kept hbw)).mono ?_
  rintro e w1 ⟨rfl, bn⟩
  replace qF := qF.kept bn
  replace hbw := stepB hbw bn
  clear bn
  rcases hcase with ⟨c1, c2⟩ | ⟨c1, c2, c3, c4⟩
  all_goals
    go_wp2_with (refine wpList_valG (exec_load_row' 24 (.tmp 4) rfl rfl qF (Below.refl _ _) _ Tryd.underlying24 rfl (poInfo _)) (by go_simp; done) ?_)
    refine (spack_arg D _ F rfl _ HD.out).mono ?_
    rintro e w2 ⟨rfl, bn⟩
    replace hbw := stepB hbw bn
    go_wp2
    go_ret
    exact ⟨rfl, hbw⟩

set_option maxRecDepth 100000 in
set_option maxHeartbeats 8000000 in
theorem back_12 (A : Array Value) (F : Nat → Int) (hF : Po F) (hA : A = ((gI F).map (Value.int .i64)).toArray) (C : Array Value) (l : List UInt8) (hl : l.length = 384) (hC : C = ((byI l).map (Value.int .u8)).toArray) (w : World) (hT : Tabs w) :
    Calls Tryd.prog 7 #[.int .i64 12, .agg A, .agg C] w fun e w' => e = .returned (.bool true) ∧ Below w.heap.size w w' := by
  have HF : Hid (Po F) := hF
  have HL : Hid (l.length = 384) := hl
  have HD : Hid (1 ≤ 12 ∧ 12 ≤ 12) := by show _ ∧ _; omega
  clear hF hl
  go_enter Tryd.func7, Tryd.ntmps7
  go_wp2_with (refine wpList_box_row (k := .i64) rfl 24 _ rfl (gI F) (by rw [← hA]; rfl) (gI_ne _) (poMax _) ?_)
  intro x1 qF bn sn
  rw [gI_length] at qF
  have hbw := bn
  clear bn sn hA
  go_wp2_with (refine wpList_box_row (k := .u8) rfl 43 _ rfl (byI l) (by rw [← hC]; rfl) (neS HL.out) (mxS HL.out) ?_)
  intro x2 rb bn sn
  rw [byI_length, HL.out] at rb
  replace qF := qF.kept bn
  replace hbw := stepB hbw bn
  clear bn sn hC
  go_wp2_with fail
  refine (awake_any _ (hT.kept hbw)).mono ?_
  rintro e x3 ⟨rfl, bn⟩
  replace qF := qF.kept bn
  replace rb := rb.kept bn
  replace hbw := stepB hbw bn
  clear bn hT
  go_wp2_with (refine wpList_valG (exec_load_row' 24 (.tmp 4) rfl rfl qF (Below.refl _ _) _ Tryd.underlying24 rfl (poInfo _)) (by go_simp; done) ?_)
  refine (clean11_any _ F HF.out rfl _).mono ?_
  rintro e x4 ⟨rfl, bn⟩
  replace qF := qF.kept bn
  replace rb := rb.kept bn
  replace hbw := stepB hbw bn
  clear bn
  have l1 := qF.lt
  have l2 := rb.lt
  have l3 := hbw.size
  go_wp2_with (refine wpList_alloc_row (k := .i64) rfl 24 rfl (gI fun _ => 0) (alloc_po _) (gI_ne _) (poMax _) ?_)
  intro x5 ro bo so
  rw [gI_length] at ro
  replace qF := qF.kept bo
  replace rb := rb.kept bo
  replace hbw := stepB hbw bo
  clear so bo
  go_wp2_with (refine wpList_store_row rfl 24 _ _ rfl (gI (fzF (rF F))) rfl rfl ro (by rw [gI_length, gI_length]) (poInfo _) ?_)
  intro x6 rw0 hw
  replace qF := qF.wrote hw (by omega)
  replace rb := rb.wrote hw (by omega)
  replace hbw := hw.below _ _ (by omega) hbw
  clear hw ro
  rw [rb12] at rw0
  rename World => wv
  go_wp2
  go_loopw [9] (fun iv wx => ∃ i : Nat, i ≤ 256 ∧ iv = .int .i64 (i : Int) ∧ wx = wv) (fun iv _ => 256 - (intOf iv).toNat)
  case atStart => exact ⟨0, by omega, rfl, rfl⟩
  case round =>
    obtain ⟨i, hi, rfl, rfl⟩ := hrel
    by_cases hlt : i < 256
    · have hd : decide ((i : Int) < 256) = true := decide_eq_true (by omega)
      have hiI : (i : Int) < 256 := by omega
      go_wp2
      go_roundw
      case rel => exact ⟨i + 1, by omega, by go_num, trivial⟩
      case measure => simp [intOf] <;> omega
    · have hd : decide ((i : Int) < 256) = false := decide_eq_false (by omega)
      have hiI : (256 : Int) ≤ (i : Int) := by omega
      have rw1 := rw0
      clear rw0
      rename World => wv
      obtain ⟨R, hR⟩ : ∃ R : Nat → FZ, R = rbF 12 F := ⟨_, rfl⟩
      rw [← hR] at rw1
      have HR : Hid _ := hR
      clear hR
      go_wp2_with (refine wpList_valG (exec_load_row' 24 (.tmp 4) rfl rfl qF (Below.refl _ _) _ Tryd.underlying24 rfl (poInfo _)) (by go_simp; done) ?_)
      refine (spack_any 12 _ rfl HD.out.1 HD.out.2 _ F HF.out rfl _).mono ?_
      rintro e y1 ⟨v1, rfl, hN1⟩
      replace qF := qF.kept hN1.2
      replace rb := rb.kept hN1.2
      replace rw1 := rw1.kept hN1.2
      replace hbw := stepB hbw hN1.2
      have xv := hN1.rd
      clear hN1
      go_wp2_with fail
      refine (sunpack_any 12 _ rfl HD.out.1 HD.out.2 _ _ _ xv (pkL_length _ _)).mono ?_
      rintro e y2 ⟨he, bn⟩
      obtain ⟨X, hX⟩ : ∃ X : Nat → FZ, X = upF 12 (pkL 12 F) := ⟨_, rfl⟩
      rw [← hX] at he
      subst he
      have HX : Hid (∀ k, k < 256 → X k = R k) := by
        show ∀ k, _
        intro k hk
        rw [hX, HR.out]
        exact up_packed 12 (by have := HD.out; omega) F k hk
      clear hX xv
      have hb0 := bn
      go_wp2_with (refine wpList_alloc_row (k := .i64) rfl 25 rfl (gI fun _ => 0) (alloc_poS _) (gI_ne _) (poMax _) ?_)
      intro zrX ro bo so
      rw [gI_length] at ro
      replace hb0 := stepB hb0 bo
      clear so bo
      go_wp2_with (refine wpList_store_row rfl 25 _ _ rfl (gI (fzF X)) rfl rfl ro (by rw [gI_length, gI_length]) (poInfoS _) ?_)
      intro urX rX hw
      replace hb0 := hw.below _ _ bn.size hb0
      replace qF := qF.kept hb0
      replace rb := rb.kept hb0
      replace rw1 := rw1.kept hb0
      replace hbw := stepB hbw hb0
      clear hb0 hw bn ro
      clear qF
      obtain ⟨bl, hbl⟩ : ∃ bl : List UInt8, bl = l := ⟨_, rfl⟩
      have HBL : Hid (bl.length = 32 * 12) := by show _ = _; rw [hbl]; exact HL.out
      have HRB : Hid (∀ W : World, RowAt .u8 43 x1.heap.size 384 (byI l) W → Rd W (.slice (some ⟨x1.heap.size, 0, none⟩) 384 384) bl) := by
        show ∀ W, _
        intro W h
        have := h.rdB
        rw [HL.out, ← hbl] at this
        exact this
      clear hbl
      go_wp2_with fail
      refine (sunpack_any 12 _ rfl HD.out.1 HD.out.2 _ bl _ (HRB.out _ rb) HBL.out).mono ?_
      rintro e y3 ⟨he, bn⟩
      obtain ⟨Y, hY⟩ : ∃ Y : Nat → FZ, Y = upF 12 bl := ⟨_, rfl⟩
      rw [← hY] at he
      subst he
      have HZ : Hid (∀ k, k < 256 → upF 12 (pkL 12 (fzF Y)) k = Y k) := by
        show ∀ k, _
        intro k hk
        rw [hY]
        exact up_again 12 (by have := HD.out; omega) HD.out.2 bl k hk
      clear hY
      have hb0 := bn
      go_wp2_with (refine wpList_alloc_row (k := .i64) rfl 25 rfl (gI fun _ => 0) (alloc_poS _) (gI_ne _) (poMax _) ?_)
      intro zrY ro bo so
      rw [gI_length] at ro
      replace hb0 := stepB hb0 bo
      clear so bo
      go_wp2_with (refine wpList_store_row rfl 25 _ _ rfl (gI (fzF Y)) rfl rfl ro (by rw [gI_length, gI_length]) (poInfoS _) ?_)
      intro urY rY hw
      replace hb0 := hw.below _ _ bn.size hb0
      replace rb := rb.kept hb0
      replace rw1 := rw1.kept hb0
      replace rX := rX.kept hb0
      replace hbw := stepB hbw hb0
      clear hb0 hw bn ro
      go_wp2_with (refine wpList_valG (exec_load_row' 25 (.tmp 12) rfl rfl rY (Below.refl _ _) _ Tryd.underlying25 rfl (poInfoS _)) (by go_simp; done) ?_)
      refine (spack_any 12 _ rfl HD.out.1 HD.out.2 _ (fzF Y) (Po.fz _) rfl _).mono ?_
      rintro e y4 ⟨v4, rfl, hN4⟩
      replace rb := rb.kept hN4.2
      replace rw1 := rw1.kept hN4.2
      replace rX := rX.kept hN4.2
      replace rY := rY.kept hN4.2
      replace hbw := stepB hbw hN4.2
      have xc := hN4.rd
      have HKL : Hid ((pkL 12 (fzF Y)).length = 32 * 12) := pkL_length _ _
      obtain ⟨c, hc0⟩ : ∃ c : List UInt8, c = pkL 12 (fzF Y) := ⟨_, rfl⟩
      rw [← hc0] at xc HKL HZ
      clear hN4 hc0
      obtain ⟨av, cv, rfl, -⟩ := id xc
      have qX : ∀ w, _ := eq_poS (f := X) (g := R) HX.out
      unfold poV at qX
      have QX : Hid _ := qX
      clear qX
      go_wp2_with fail
      replace rb := rb.drew
      replace rw1 := rw1.drew
      replace rX := rX.drew
      replace rY := rY.drew
      replace xc := xc.drew
      replace hbw := hbw.drew
      refine wpG_begin (by kernel_rfl) ?_
      refine wpG_take (i := 0) (oi := { dst := some 68, op := Op.move (Operand.tmp 11), type := 29, pos := "law.go:94", after := #[], guard := none }) (v := ?_) rfl (by kernel_rfl) (by kernel_rfl) (by kernel_rfl) (by rfl) ?_ ?_
      rotate_left
      · intro W hW; first | (go_simp; done) | (go_simp; with_reducible rfl)
      try simp only [Act.put, List.setIfInBounds_toArray, List.set_cons_zero, List.set_cons_succ]
      refine wpG_take (i := 1) (oi := { dst := some 69, op := Op.binOp BinOp.neq 29 (Operand.tmp 68) (Operand.const (Value.int IntKind.i64 0)) 29, type := 4, pos := "law.go:94", after := #[{ on := 0, ground := Ground.data }], guard := none }) (v := ?_) rfl (by kernel_rfl) (by kernel_rfl) (by kernel_rfl) (by rfl) ?_ ?_
      rotate_left
      · intro W hW; first | (go_simp; done) | (go_simp; with_reducible rfl)
      try simp only [Act.put, List.setIfInBounds_toArray, List.set_cons_zero, List.set_cons_succ]
      refine wpG_take (i := 2) (oi := { dst := some 70, op := Op.move (Operand.tmp 69), type := 4, pos := "law.go:94", after := #[{ on := 1, ground := Ground.data }], guard := none }) (v := ?_) rfl (by kernel_rfl) (by kernel_rfl) (by kernel_rfl) (by rfl) ?_ ?_
      rotate_left
      · intro W hW; first | (go_simp; done) | (go_simp; with_reducible rfl)
      try simp only [Act.put, List.setIfInBounds_toArray, List.set_cons_zero, List.set_cons_succ]
      refine wpG_take (i := 3) (oi := { dst := some 71, op := Op.move (Operand.tmp 13), type := 29, pos := "law.go:94", after := #[{ on := 2, ground := Ground.guard }], guard := some (2, false) }) (v := ?_) rfl (by kernel_rfl) (by kernel_rfl) (by kernel_rfl) (by rfl) ?_ ?_
      rotate_left
      · intro W hW; first | (go_simp; done) | (go_simp; with_reducible rfl)
      try simp only [Act.put, List.setIfInBounds_toArray, List.set_cons_zero, List.set_cons_succ]
      refine wpG_take (i := 4) (oi := { dst := some 72, op := Op.binOp BinOp.neq 29 (Operand.tmp 71) (Operand.const (Value.int IntKind.i64 0)) 29, type := 4, pos := "law.go:94", after := #[{ on := 3, ground := Ground.data }, { on := 2, ground := Ground.guard }], guard := some (2, false) }) (v := ?_) rfl (by kernel_rfl) (by kernel_rfl) (by kernel_rfl) (by rfl) ?_ ?_
      rotate_left
      · intro W hW; first | (go_simp; done) | (go_simp; with_reducible rfl)
      try simp only [Act.put, List.setIfInBounds_toArray, List.set_cons_zero, List.set_cons_succ]
      refine wpG_take (i := 5) (oi := { dst := some 73, op := Op.pick (Operand.tmp 70) (Operand.const (Value.bool true)) (Operand.tmp 72), type := 4, pos := "law.go:94", after := #[{ on := 2, ground := Ground.data }, { on := 4, ground := Ground.data }], guard := none }) (v := ?_) rfl (by kernel_rfl) (by kernel_rfl) (by kernel_rfl) (by rfl) ?_ ?_
      rotate_left
      · intro W hW; first | (go_simp; done) | (go_simp; with_reducible rfl)
      try simp only [Act.put, List.setIfInBounds_toArray, List.set_cons_zero, List.set_cons_succ]
      refine wpG_take (i := 6) (oi := { dst := some 74, op := Op.move (Operand.tmp 73), type := 4, pos := "law.go:94", after := #[{ on := 5, ground := Ground.data }, { on := 2, ground := Ground.chain }], guard := none }) (v := ?_) rfl (by kernel_rfl) (by kernel_rfl) (by kernel_rfl) (by rfl) ?_ ?_
      rotate_left
      · intro W hW; first | (go_simp; done) | (go_simp; with_reducible rfl)
      try simp only [Act.put, List.setIfInBounds_toArray, List.set_cons_zero, List.set_cons_succ]
      refine wpG_take (i := 7) (oi := { dst := some 75, op := Op.load 25 (Operand.tmp 10), type := 25, pos := "law.go:94", after := #[{ on := 6, ground := Ground.guard }], guard := some (6, false) }) (v := ?_) rfl (by kernel_rfl) (by kernel_rfl) (by kernel_rfl) (by rfl) ?_ ?_
      rotate_left
      · intro W hW; refine Eq.trans (exec_load_row' 25 _ (by rfl) (by rfl) rX hW _ Tryd.underlying25 rfl (poInfoS _)) ?_; with_reducible rfl
      try simp only [Act.put, List.setIfInBounds_toArray, List.set_cons_zero, List.set_cons_succ]
      refine wpG_take (i := 8) (oi := { dst := some 76, op := Op.load 24 (Operand.tmp 8), type := 24, pos := "law.go:94", after := #[{ on := 6, ground := Ground.guard }], guard := some (6, false) }) (v := ?_) rfl (by kernel_rfl) (by kernel_rfl) (by kernel_rfl) (by rfl) ?_ ?_
      rotate_left
      · intro W hW; refine Eq.trans (exec_load_row' 24 _ (by rfl) (by rfl) rw1 hW _ Tryd.underlying24 rfl (poInfo _)) ?_; with_reducible rfl
      try simp only [Act.put, List.setIfInBounds_toArray, List.set_cons_zero, List.set_cons_succ]
      refine wpG_take (i := 9) (oi := { dst := some 77, op := Op.binOp BinOp.neq 25 (Operand.tmp 75) (Operand.tmp 76) 25, type := 4, pos := "law.go:94", after := #[{ on := 7, ground := Ground.data }, { on := 8, ground := Ground.data }, { on := 6, ground := Ground.guard }], guard := some (6, false) }) (v := ?_) rfl (by kernel_rfl) (by kernel_rfl) (by kernel_rfl) (by rfl) ?_ ?_
      rotate_left
      · intro W hW; have qx := QX.out W; first | (go_simp; done) | (go_simp; with_reducible rfl)
      try simp only [Act.put, List.setIfInBounds_toArray, List.set_cons_zero, List.set_cons_succ]
      refine wpG_take (i := 10) (oi := { dst := some 78, op := Op.pick (Operand.tmp 74) (Operand.const (Value.bool true)) (Operand.tmp 77), type := 4, pos := "law.go:94", after := #[{ on := 6, ground := Ground.data }, { on := 9, ground := Ground.data }], guard := none }) (v := ?_) rfl (by kernel_rfl) (by kernel_rfl) (by kernel_rfl) (by rfl) ?_ ?_
      rotate_left
      · intro W hW; first | (go_simp; done) | (go_simp; with_reducible rfl)
      try simp only [Act.put, List.setIfInBounds_toArray, List.set_cons_zero, List.set_cons_succ]
      refine wpG_take (i := 11) (oi := { dst := some 79, op := Op.move (Operand.tmp 78), type := 4, pos := "law.go:94", after := #[{ on := 10, ground := Ground.data }, { on := 6, ground := Ground.chain }], guard := none }) (v := ?_) rfl (by kernel_rfl) (by kernel_rfl) (by kernel_rfl) (by rfl) ?_ ?_
      rotate_left
      · intro W hW; first | (go_simp; done) | (go_simp; with_reducible rfl)
      try simp only [Act.put, List.setIfInBounds_toArray, List.set_cons_zero, List.set_cons_succ]
      refine wpG_take (i := 12) (oi := { dst := some 80, op := Op.move (Operand.tmp 0), type := 3, pos := "law.go:94", after := #[{ on := 11, ground := Ground.guard }], guard := some (11, false) }) (v := ?_) rfl (by kernel_rfl) (by kernel_rfl) (by kernel_rfl) (by rfl) ?_ ?_
      rotate_left
      · intro W hW; first | (go_simp; done) | (go_simp; with_reducible rfl)
      try simp only [Act.put, List.setIfInBounds_toArray, List.set_cons_zero, List.set_cons_succ]
      refine wpG_take (i := 13) (oi := { dst := some 81, op := Op.binOp BinOp.lss 3 (Operand.tmp 80) (Operand.const (Value.int IntKind.i64 12)) 3, type := 4, pos := "law.go:94", after := #[{ on := 12, ground := Ground.data }, { on := 11, ground := Ground.guard }], guard := some (11, false) }) (v := ?_) rfl (by kernel_rfl) (by kernel_rfl) (by kernel_rfl) (by rfl) ?_ ?_
      rotate_left
      · intro W hW; first | (go_simp; done) | (go_simp; with_reducible rfl)
      try simp only [Act.put, List.setIfInBounds_toArray, List.set_cons_zero, List.set_cons_succ]
      refine wpG_take (i := 14) (oi := { dst := some 82, op := Op.move (Operand.tmp 81), type := 4, pos := "law.go:94", after := #[{ on := 13, ground := Ground.data }, { on := 11, ground := Ground.chain }, { on := 11, ground := Ground.guard }], guard := some (11, false) }) (v := ?_) rfl (by kernel_rfl) (by kernel_rfl) (by kernel_rfl) (by rfl) ?_ ?_
      rotate_left
      · intro W hW; first | (go_simp; done) | (go_simp; with_reducible rfl)
      try simp only [Act.put, List.setIfInBounds_toArray, List.set_cons_zero, List.set_cons_succ]
      refine wpG_skip (i := 15) (oi := { dst := some 83, op := Op.move (Operand.tmp 14), type := 22, pos := "law.go:94", after := #[{ on := 14, ground := Ground.guard }], guard := some (14, true) }) rfl (by kernel_rfl) (by kernel_rfl) (by kernel_rfl) (by rfl) ?_
      try simp only [Act.put, List.setIfInBounds_toArray, List.set_cons_zero, List.set_cons_succ]
      refine wpG_skip (i := 16) (oi := { dst := some 84, op := Op.convert 22 9 (Operand.tmp 83), type := 9, pos := "law.go:94", after := #[{ on := 15, ground := Ground.data }, { on := 14, ground := Ground.guard }], guard := some (14, true) }) rfl (by kernel_rfl) (by kernel_rfl) (by kernel_rfl) (by rfl) ?_
      try simp only [Act.put, List.setIfInBounds_toArray, List.set_cons_zero, List.set_cons_succ]
      refine wpG_skip (i := 17) (oi := { dst := some 85, op := Op.move (Operand.tmp 0), type := 3, pos := "law.go:94", after := #[{ on := 14, ground := Ground.guard }], guard := some (14, true) }) rfl (by kernel_rfl) (by kernel_rfl) (by kernel_rfl) (by rfl) ?_
      try simp only [Act.put, List.setIfInBounds_toArray, List.set_cons_zero, List.set_cons_succ]
      refine wpG_skip (i := 18) (oi := { dst := some 86, op := Op.binOp BinOp.mul 3 (Operand.const (Value.int IntKind.i64 32)) (Operand.tmp 85) 3, type := 3, pos := "law.go:94", after := #[{ on := 17, ground := Ground.data }, { on := 14, ground := Ground.guard }], guard := some (14, true) }) rfl (by kernel_rfl) (by kernel_rfl) (by kernel_rfl) (by rfl) ?_
      try simp only [Act.put, List.setIfInBounds_toArray, List.set_cons_zero, List.set_cons_succ]
      refine wpG_skip (i := 19) (oi := { dst := some 87, op := Op.slice 43 (Operand.tmp 5) none (some (Operand.tmp 86)) none, type := 22, pos := "law.go:94", after := #[{ on := 18, ground := Ground.data }, { on := 14, ground := Ground.guard }], guard := some (14, true) }) rfl (by kernel_rfl) (by kernel_rfl) (by kernel_rfl) (by rfl) ?_
      try simp only [Act.put, List.setIfInBounds_toArray, List.set_cons_zero, List.set_cons_succ]
      refine wpG_skip (i := 20) (oi := { dst := some 88, op := Op.convert 22 9 (Operand.tmp 87), type := 9, pos := "law.go:94", after := #[{ on := 19, ground := Ground.data }, { on := 14, ground := Ground.guard }], guard := some (14, true) }) rfl (by kernel_rfl) (by kernel_rfl) (by kernel_rfl) (by rfl) ?_
      try simp only [Act.put, List.setIfInBounds_toArray, List.set_cons_zero, List.set_cons_succ]
      refine wpG_skip (i := 21) (oi := { dst := some 89, op := Op.binOp BinOp.neq 9 (Operand.tmp 84) (Operand.tmp 88) 9, type := 4, pos := "law.go:94", after := #[{ on := 16, ground := Ground.data }, { on := 20, ground := Ground.data }, { on := 14, ground := Ground.guard }], guard := some (14, true) }) rfl (by kernel_rfl) (by kernel_rfl) (by kernel_rfl) (by rfl) ?_
      try simp only [Act.put, List.setIfInBounds_toArray, List.set_cons_zero, List.set_cons_succ]
      refine wpG_take (i := 22) (oi := { dst := some 90, op := Op.pick (Operand.tmp 82) (Operand.tmp 89) (Operand.const (Value.bool false)), type := 4, pos := "law.go:94", after := #[{ on := 14, ground := Ground.data }, { on := 21, ground := Ground.data }, { on := 11, ground := Ground.guard }], guard := some (11, false) }) (v := ?_) rfl (by kernel_rfl) (by kernel_rfl) (by kernel_rfl) (by rfl) ?_ ?_
      rotate_left
      · intro W hW; first | (go_simp; done) | (go_simp; with_reducible rfl)
      try simp only [Act.put, List.setIfInBounds_toArray, List.set_cons_zero, List.set_cons_succ]
      refine wpG_take (i := 23) (oi := { dst := some 91, op := Op.pick (Operand.tmp 79) (Operand.const (Value.bool true)) (Operand.tmp 90), type := 4, pos := "law.go:94", after := #[{ on := 11, ground := Ground.data }, { on := 22, ground := Ground.data }], guard := none }) (v := ?_) rfl (by kernel_rfl) (by kernel_rfl) (by kernel_rfl) (by rfl) ?_ ?_
      rotate_left
      · intro W hW; first | (go_simp; done) | (go_simp; with_reducible rfl)
      try simp only [Act.put, List.setIfInBounds_toArray, List.set_cons_zero, List.set_cons_succ]
      refine wpG_done (by kernel_rfl) ?_
      clear QX HX rb HRB rX
      go_wp2_with fail
      refine (sunpack_any 12 _ rfl HD.out.1 HD.out.2 _ c _ xc HKL.out).mono ?_
      rintro e y5 ⟨he, bn⟩
      obtain ⟨Z, hZ⟩ : ∃ Z : Nat → FZ, Z = upF 12 c := ⟨_, rfl⟩
      rw [← hZ] at he HZ
      subst he
      clear hZ
      have hb0 := bn
      go_wp2_with (refine wpList_alloc_row (k := .i64) rfl 25 rfl (gI fun _ => 0) (alloc_poS _) (gI_ne _) (poMax _) ?_)
      intro zrZ ro bo so
      rw [gI_length] at ro
      replace hb0 := stepB hb0 bo
      clear so bo
      go_wp2_with (refine wpList_store_row rfl 25 _ _ rfl (gI (fzF Z)) rfl rfl ro (by rw [gI_length, gI_length]) (poInfoS _) ?_)
      intro urZ rZ hw
      replace hb0 := hw.below _ _ bn.size hb0
      replace rw1 := rw1.kept hb0
      replace rY := rY.kept hb0
      replace xc := xc.kept hb0
      replace hbw := stepB hbw hb0
      clear hb0 hw bn ro
      have qZ : ∀ w, _ := eq_poS (f := Z) (g := Y) HZ.out
      unfold poV at qZ
      go_wp2_with (first
        | refine wpList_valG (exec_load_row' 25 (.tmp 15) rfl rfl rZ (Below.refl _ _) _ Tryd.underlying25 rfl (poInfoS _)) (by go_simp; done) ?_
        | refine wpList_valG (exec_load_row' 25 (.tmp 12) rfl rfl rY (Below.refl _ _) _ Tryd.underlying25 rfl (poInfoS _)) (by go_simp; done) ?_)
      clear qZ rZ rY xc
      replace rw1 := rw1.drew
      replace hbw := hbw.drew
      refine wpG_begin (by kernel_rfl) ?_
      refine wpG_take (i := 0) (oi := { dst := some 105, op := Op.move (Operand.tmp 0), type := 3, pos := "law.go:101", after := #[], guard := none }) (v := ?_) rfl (by kernel_rfl) (by kernel_rfl) (by kernel_rfl) (by rfl) ?_ ?_
      rotate_left
      · intro W hW; first | (go_simp; done) | (go_simp; with_reducible rfl)
      try simp only [Act.put, List.setIfInBounds_toArray, List.set_cons_zero, List.set_cons_succ]
      refine wpG_take (i := 1) (oi := { dst := some 106, op := Op.binOp BinOp.eql 3 (Operand.tmp 105) (Operand.const (Value.int IntKind.i64 12)) 3, type := 4, pos := "law.go:101", after := #[{ on := 0, ground := Ground.data }], guard := none }) (v := ?_) rfl (by kernel_rfl) (by kernel_rfl) (by kernel_rfl) (by rfl) ?_ ?_
      rotate_left
      · intro W hW; first | (go_simp; done) | (go_simp; with_reducible rfl)
      try simp only [Act.put, List.setIfInBounds_toArray, List.set_cons_zero, List.set_cons_succ]
      refine wpG_take (i := 2) (oi := { dst := some 107, op := Op.move (Operand.tmp 106), type := 4, pos := "law.go:101", after := #[{ on := 1, ground := Ground.data }], guard := none }) (v := ?_) rfl (by kernel_rfl) (by kernel_rfl) (by kernel_rfl) (by rfl) ?_ ?_
      rotate_left
      · intro W hW; first | (go_simp; done) | (go_simp; with_reducible rfl)
      try simp only [Act.put, List.setIfInBounds_toArray, List.set_cons_zero, List.set_cons_succ]
      refine wpG_skip (i := 3) (oi := { dst := some 108, op := Op.move (Operand.tmp 0), type := 3, pos := "law.go:101", after := #[{ on := 2, ground := Ground.guard }], guard := some (2, false) }) rfl (by kernel_rfl) (by kernel_rfl) (by kernel_rfl) (by rfl) ?_
      try simp only [Act.put, List.setIfInBounds_toArray, List.set_cons_zero, List.set_cons_succ]
      refine wpG_skip (i := 4) (oi := { dst := some 109, op := Op.move (Operand.tmp 0), type := 3, pos := "law.go:101", after := #[{ on := 2, ground := Ground.guard }], guard := some (2, false) }) rfl (by kernel_rfl) (by kernel_rfl) (by kernel_rfl) (by rfl) ?_
      try simp only [Act.put, List.setIfInBounds_toArray, List.set_cons_zero, List.set_cons_succ]
      refine wpG_skip (i := 5) (oi := { dst := some 110, op := Op.load 24 (Operand.tmp 8), type := 24, pos := "law.go:101", after := #[{ on := 2, ground := Ground.guard }], guard := some (2, false) }) rfl (by kernel_rfl) (by kernel_rfl) (by kernel_rfl) (by rfl) ?_
      try simp only [Act.put, List.setIfInBounds_toArray, List.set_cons_zero, List.set_cons_succ]
      refine wpG_skip (i := 6) (oi := { dst := some 111, op := Op.call { callee := Callee.value (Operand.func 22), args := #[Operand.tmp 109, Operand.tmp 110], argTypes := #[3, 25] }, type := 25, pos := "law.go:101", after := #[{ on := 4, ground := Ground.data }, { on := 5, ground := Ground.data }, { on := 2, ground := Ground.chain }, { on := 2, ground := Ground.guard }], guard := some (2, false) }) rfl (by kernel_rfl) (by kernel_rfl) (by kernel_rfl) (by rfl) ?_
      try simp only [Act.put, List.setIfInBounds_toArray, List.set_cons_zero, List.set_cons_succ]
      refine wpG_skip (i := 7) (oi := { dst := some 112, op := Op.call { callee := Callee.value (Operand.func 20), args := #[Operand.tmp 108, Operand.tmp 111], argTypes := #[3, 25] }, type := 25, pos := "law.go:101", after := #[{ on := 3, ground := Ground.data }, { on := 6, ground := Ground.data }, { on := 6, ground := Ground.chain }, { on := 2, ground := Ground.guard }], guard := some (2, false) }) rfl (by kernel_rfl) (by kernel_rfl) (by kernel_rfl) (by rfl) ?_
      try simp only [Act.put, List.setIfInBounds_toArray, List.set_cons_zero, List.set_cons_succ]
      refine wpG_skip (i := 8) (oi := { dst := some 113, op := Op.load 24 (Operand.tmp 8), type := 24, pos := "law.go:101", after := #[{ on := 2, ground := Ground.guard }], guard := some (2, false) }) rfl (by kernel_rfl) (by kernel_rfl) (by kernel_rfl) (by rfl) ?_
      try simp only [Act.put, List.setIfInBounds_toArray, List.set_cons_zero, List.set_cons_succ]
      refine wpG_skip (i := 9) (oi := { dst := some 114, op := Op.binOp BinOp.eql 25 (Operand.tmp 112) (Operand.tmp 113) 25, type := 4, pos := "law.go:101", after := #[{ on := 7, ground := Ground.data }, { on := 8, ground := Ground.data }, { on := 2, ground := Ground.guard }], guard := some (2, false) }) rfl (by kernel_rfl) (by kernel_rfl) (by kernel_rfl) (by rfl) ?_
      try simp only [Act.put, List.setIfInBounds_toArray, List.set_cons_zero, List.set_cons_succ]
      refine wpG_take (i := 10) (oi := { dst := some 115, op := Op.pick (Operand.tmp 107) (Operand.const (Value.bool true)) (Operand.tmp 114), type := 4, pos := "law.go:101", after := #[{ on := 2, ground := Ground.data }, { on := 9, ground := Ground.data }], guard := none }) (v := ?_) rfl (by kernel_rfl) (by kernel_rfl) (by kernel_rfl) (by rfl) ?_ ?_
      rotate_left
      · intro W hW; first | (go_simp; done) | (go_simp; with_reducible rfl)
      try simp only [Act.put, List.setIfInBounds_toArray, List.set_cons_zero, List.set_cons_succ]
      refine wpG_take (i := 11) (oi := { dst := some 6, op := Op.assign (Operand.tmp 115), type := 4, pos := "law.go:101", after := #[{ on := 10, ground := Ground.data }, { on := 7, ground := Ground.chain }, { on := 0, ground := Ground.phase }, { on := 1, ground := Ground.phase }, { on := 2, ground := Ground.phase }, { on := 3, ground := Ground.phase }, { on := 4, ground := Ground.phase }, { on := 5, ground := Ground.phase }, { on := 6, ground := Ground.phase }, { on := 7, ground := Ground.phase }, { on := 8, ground := Ground.phase }, { on := 9, ground := Ground.phase }, { on := 10, ground := Ground.phase }], guard := none }) (v := ?_) rfl (by kernel_rfl) (by kernel_rfl) (by kernel_rfl) (by rfl) ?_ ?_
      rotate_left
      · intro W hW; first | (go_simp; done) | (go_simp; with_reducible rfl)
      try simp only [Act.put, List.setIfInBounds_toArray, List.set_cons_zero, List.set_cons_succ]
      refine wpG_done (by kernel_rfl) ?_
      go_wp2
      go_ret
      exact ⟨rfl, hbw⟩

set_option maxRecDepth 100000 in
set_option maxHeartbeats 8000000 in
theorem back_in (d : Nat) (h1 : 1 ≤ d) (h2 : d ≤ 11) (A : Array Value) (F : Nat → Int) (hF : Po F) (hA : A = ((gI F).map (Value.int .i64)).toArray) (C : Array Value) (l : List UInt8) (hl : l.length = 384) (hC : C = ((byI l).map (Value.int .u8)).toArray) (w : World) (hT : Tabs w) :
    Calls Tryd.prog 7 #[.int .i64 (d : Int), .agg A, .agg C] w fun e w' => e = .returned (.bool true) ∧ Below w.heap.size w w' := by
  have HF : Hid (Po F) := hF
  have HL : Hid (l.length = 384) := hl
  have HD : Hid (1 ≤ d ∧ d ≤ 12) := by show _ ∧ _; omega
  have dA : decide ((d : Int) < 1) = false := decide_eq_false (by omega)
  have dB : decide (12 < (d : Int)) = false := decide_eq_false (by omega)
  have dC : decide ((d : Int) < 12) = true := decide_eq_true (by omega)
  have dD : (1 : Int) ≤ (d : Int) := by omega
  have dE : (d : Int) < 12 := by omega
  have dG : (d : Int) ≤ 12 := by omega
  have dF : ((d : Int) == 12) = false := by simp; omega
  have dH : ¬ (d : Int) = 12 := by omega
  clear hF hl
  go_enter Tryd.func7, Tryd.ntmps7
  go_wp2_with (refine wpList_box_row (k := .i64) rfl 24 _ rfl (gI F) (by rw [← hA]; rfl) (gI_ne _) (poMax _) ?_)
  intro x1 qF bn sn
  rw [gI_length] at qF
  have hbw := bn
  clear bn sn hA
  go_wp2_with (refine wpList_box_row (k := .u8) rfl 43 _ rfl (byI l) (by rw [← hC]; rfl) (neS HL.out) (mxS HL.out) ?_)
  intro x2 rb bn sn
  rw [byI_length, HL.out] at rb
  replace qF := qF.kept bn
  replace hbw := stepB hbw bn
  clear bn sn hC
  go_wp2_with fail
  refine (awake_any _ (hT.kept hbw)).mono ?_
  rintro e x3 ⟨rfl, bn⟩
  replace qF := qF.kept bn
  replace rb := rb.kept bn
  replace hbw := stepB hbw bn
  clear bn hT
  go_wp2_with (refine wpList_valG (exec_load_row' 24 (.tmp 4) rfl rfl qF (Below.refl _ _) _ Tryd.underlying24 rfl (poInfo _)) (by go_simp; done) ?_)
  refine (clean11_any _ F HF.out rfl _).mono ?_
  rintro e x4 ⟨rfl, bn⟩
  replace qF := qF.kept bn
  replace rb := rb.kept bn
  replace hbw := stepB hbw bn
  clear bn
  have l1 := qF.lt
  have l2 := rb.lt
  have l3 := hbw.size
  go_wp2_with (refine wpList_alloc_row (k := .i64) rfl 24 rfl (gI fun _ => 0) (alloc_po _) (gI_ne _) (poMax _) ?_)
  intro x5 ro bo so
  rw [gI_length] at ro
  replace qF := qF.kept bo
  replace rb := rb.kept bo
  replace hbw := stepB hbw bo
  clear so bo
  go_wp2_with (refine wpList_store_row rfl 24 _ _ rfl (gI (fzF (rF F))) rfl rfl ro (by rw [gI_length, gI_length]) (poInfo _) ?_)
  intro x6 rw0 hw
  replace qF := qF.wrote hw (by omega)
  replace rb := rb.wrote hw (by omega)
  replace hbw := hw.below _ _ (by omega) hbw
  clear hw ro
  go_wp2
  go_loopw [9] (fun iv wx => ∃ (i : Nat) (H : Nat → Int), i ≤ 256 ∧ iv = .int .i64 (i : Int) ∧ Hid (∀ k, k < 256 → H k = if k < i then fzF (rbF d F) k else fzF (rF F) k) ∧ RowAt .i64 24 w.heap.size 256 (gI F) wx ∧ RowAt .u8 43 x1.heap.size 384 (byI l) wx ∧ RowAt .i64 24 x4.heap.size 256 (gI H) wx ∧ Below w.heap.size w wx) (fun iv _ => 256 - (intOf iv).toNat)
  case atStart => exact ⟨0, _, by omega, rfl, (by show ∀ k, _; intro k _; rw [if_neg (by omega)]), qF, rb, rw0, hbw⟩
  case round =>
    obtain ⟨i, H, hi, rfl, HH, qF2, rb2, rw1, hb2⟩ := hrel
    clear qF rb rw0 hbw
    by_cases hlt : i < 256
    · have hd : decide ((i : Int) < 256) = true := decide_eq_true (by omega)
      have hiI : (i : Int) < 256 := by omega
      have hc := rw1.cell (j := i) (by rw [gI_length]; exact hlt)
      rw [gI_get _ hlt, HH.out i hlt, if_neg (by omega)] at hc
      have hxl := (rF F i).isLt
      obtain ⟨x, hx⟩ : ∃ x : Nat, x = (rF F i).val := ⟨_, rfl⟩
      unfold fzF at hc
      rw [← hx] at hc hxl
      obtain ⟨T, y, f1, f2, f3, f4, hy⟩ := mask_facts d x h1 h2 hxl
      have HY : Hid ((y : Int) = fzF (rbF d F) i) := by
        show _ = _
        unfold fzF
        rw [rbF_val, hy, hx, rF_valS]
      have HG : Hid (∀ k, k < 256 → (if k = i then (y : Int) else H k) = if k < i + 1 then fzF (rbF d F) k else fzF (rF F) k) := by
        show ∀ k, _
        intro k hk
        by_cases e : k = i
        · rw [if_pos e, if_pos (by omega), e, HY.out]
        · rw [if_neg e, HH.out k hk]
          by_cases e2 : k < i
          · rw [if_pos e2, if_pos (by omega)]
          · rw [if_neg e2, if_neg (by omega)]
      have HI : Hid (i < 256) := hlt
      have u1 : IntKind.u64.wrap (d : Int) = (d : Int) := by rw [IntKind.wrap_u64]; omega
      clear hx hy HY
      go_wp2_with (refine wpList_store_int rfl _ _ rfl rfl (y : Int) rfl rw1 (by rw [gI_length]; exact HI.out) ?_)
      intro w8 r8 hw8
      rw [gI_set] at r8
      have qF8 := qF2.wrote hw8 (by omega)
      have rb8 := rb2.wrote hw8 (by omega)
      have hb8 := hw8.below _ _ (by omega) hb2
      clear qF2 rb2 rw1 hb2 hw8 hc
      go_wp2
      go_roundw
      case rel => exact ⟨i + 1, _, by omega, by go_num, HG, qF8, rb8, r8, hb8⟩
      case measure => simp [intOf] <;> omega
    · have hie : i = 256 := by omega
      have hd : decide ((i : Int) < 256) = false := decide_eq_false (by omega)
      have hiI : (256 : Int) ≤ (i : Int) := by omega
      have HE : gI H = gI (fzF (rbF d F)) := gI_congr fun k hk => by rw [HH.out k hk, if_pos (by omega)]
      rw [HE] at rw1
      have qF := qF2
      have rb := rb2
      have hbw := hb2
      clear hie HE HH qF2 rb2 hb2
      rename World => wv
      obtain ⟨R, hR⟩ : ∃ R : Nat → FZ, R = rbF d F := ⟨_, rfl⟩
      rw [← hR] at rw1
      have HR : Hid _ := hR
      clear hR
      go_wp2_with (refine wpList_valG (exec_load_row' 24 (.tmp 4) rfl rfl qF (Below.refl _ _) _ Tryd.underlying24 rfl (poInfo _)) (by go_simp; done) ?_)
      refine (spack_any d _ rfl HD.out.1 HD.out.2 _ F HF.out rfl _).mono ?_
      rintro e y1 ⟨v1, rfl, hN1⟩
      replace qF := qF.kept hN1.2
      replace rb := rb.kept hN1.2
      replace rw1 := rw1.kept hN1.2
      replace hbw := stepB hbw hN1.2
      have xv := hN1.rd
      clear hN1
      go_wp2_with fail
      refine (sunpack_any d _ rfl HD.out.1 HD.out.2 _ _ _ xv (pkL_length _ _)).mono ?_
      rintro e y2 ⟨he, bn⟩
      obtain ⟨X, hX⟩ : ∃ X : Nat → FZ, X = upF d (pkL d F) := ⟨_, rfl⟩
      rw [← hX] at he
      subst he
      have HX : Hid (∀ k, k < 256 → X k = R k) := by
        show ∀ k, _
        intro k hk
        rw [hX, HR.out]
        exact up_packed d (by have := HD.out; omega) F k hk
      clear hX xv
      have hb0 := bn
      go_wp2_with (refine wpList_alloc_row (k := .i64) rfl 25 rfl (gI fun _ => 0) (alloc_poS _) (gI_ne _) (poMax _) ?_)
      intro zrX ro bo so
      rw [gI_length] at ro
      replace hb0 := stepB hb0 bo
      clear so bo
      go_wp2_with (refine wpList_store_row rfl 25 _ _ rfl (gI (fzF X)) rfl rfl ro (by rw [gI_length, gI_length]) (poInfoS _) ?_)
      intro urX rX hw
      replace hb0 := hw.below _ _ bn.size hb0
      replace qF := qF.kept hb0
      replace rb := rb.kept hb0
      replace rw1 := rw1.kept hb0
      replace hbw := stepB hbw hb0
      clear hb0 hw bn ro
      clear qF
      obtain ⟨m, hm⟩ : ∃ m : Nat, m = 32 * d := ⟨_, rfl⟩
      have hm3 : m ≤ 384 := by omega
      have xm : IntKind.i64.wrap (32 * (d : Int)) = (m : Int) := by rw [IntWalk.i64_in _ (by omega)]; omega
      have xm2 : 32 * (d : Int) = (m : Int) := by omega
      have xm3 : (m : Int) ≤ 384 := by omega
      have xm4 : (0 : Int) ≤ (m : Int) := by omega
      obtain ⟨bl, hbl⟩ : ∃ bl : List UInt8, bl = l.take m := ⟨_, rfl⟩
      have HBL : Hid (bl.length = 32 * d) := by show _ = _; rw [hbl, List.length_take, HL.out]; omega
      have HRB : Hid (∀ W : World, RowAt .u8 43 x1.heap.size 384 (byI l) W → Rd W (.slice (some ⟨x1.heap.size, 0, none⟩) m 384) bl) := by
        show ∀ W, _
        intro W h
        have := h.rdB
        rw [HL.out] at this
        rw [hbl]
        exact this.take hm3
      clear hbl hm
      go_wp2_with fail
      refine (sunpack_any d _ rfl HD.out.1 HD.out.2 _ bl _ (HRB.out _ rb) HBL.out).mono ?_
      rintro e y3 ⟨he, bn⟩
      obtain ⟨Y, hY⟩ : ∃ Y : Nat → FZ, Y = upF d bl := ⟨_, rfl⟩
      rw [← hY] at he
      subst he
      have HC : Hid (pkL d (fzF Y) = bl) := by show _ = _; rw [hY]; exact pk_unpacked d h1 h2 bl HBL.out
      have HZ : Hid (∀ k, k < 256 → upF d (pkL d (fzF Y)) k = Y k) := by
        show ∀ k, _
        intro k hk
        rw [hY]
        exact up_again d (by have := HD.out; omega) HD.out.2 bl k hk
      clear hY
      have hb0 := bn
      go_wp2_with (refine wpList_alloc_row (k := .i64) rfl 25 rfl (gI fun _ => 0) (alloc_poS _) (gI_ne _) (poMax _) ?_)
      intro zrY ro bo so
      rw [gI_length] at ro
      replace hb0 := stepB hb0 bo
      clear so bo
      go_wp2_with (refine wpList_store_row rfl 25 _ _ rfl (gI (fzF Y)) rfl rfl ro (by rw [gI_length, gI_length]) (poInfoS _) ?_)
      intro urY rY hw
      replace hb0 := hw.below _ _ bn.size hb0
      replace rb := rb.kept hb0
      replace rw1 := rw1.kept hb0
      replace rX := rX.kept hb0
      replace hbw := stepB hbw hb0
      clear hb0 hw bn ro
      go_wp2_with (refine wpList_valG (exec_load_row' 25 (.tmp 12) rfl rfl rY (Below.refl _ _) _ Tryd.underlying25 rfl (poInfoS _)) (by go_simp; done) ?_)
      refine (spack_any d _ rfl HD.out.1 HD.out.2 _ (fzF Y) (Po.fz _) rfl _).mono ?_
      rintro e y4 ⟨v4, rfl, hN4⟩
      replace rb := rb.kept hN4.2
      replace rw1 := rw1.kept hN4.2
      replace rX := rX.kept hN4.2
      replace rY := rY.kept hN4.2
      replace hbw := stepB hbw hN4.2
      have xc := hN4.rd
      have HKL : Hid ((pkL d (fzF Y)).length = 32 * d) := pkL_length _ _
      obtain ⟨c, hc0⟩ : ∃ c : List UInt8, c = pkL d (fzF Y) := ⟨_, rfl⟩
      rw [← hc0] at xc HKL HZ HC
      clear hN4 hc0
      obtain ⟨av, cv, rfl, -⟩ := id xc
      have qX : ∀ w, _ := eq_poS (f := X) (g := R) HX.out
      unfold poV at qX
      have QX : Hid _ := qX
      clear qX
      clear xm2
      go_wp2_with fail
      replace rb := rb.drew
      replace rw1 := rw1.drew
      replace rX := rX.drew
      replace rY := rY.drew
      replace xc := xc.drew
      replace hbw := hbw.drew
      refine wpG_begin (by kernel_rfl) ?_
      refine wpG_take (i := 0) (oi := { dst := some 68, op := Op.move (Operand.tmp 11), type := 29, pos := "law.go:94", after := #[], guard := none }) (v := ?_) rfl (by kernel_rfl) (by kernel_rfl) (by kernel_rfl) (by rfl) ?_ ?_
      rotate_left
      · intro W hW; first | (go_simp; done) | (go_simp; with_reducible rfl)
      try simp only [Act.put, List.setIfInBounds_toArray, List.set_cons_zero, List.set_cons_succ]
      refine wpG_take (i := 1) (oi := { dst := some 69, op := Op.binOp BinOp.neq 29 (Operand.tmp 68) (Operand.const (Value.int IntKind.i64 0)) 29, type := 4, pos := "law.go:94", after := #[{ on := 0, ground := Ground.data }], guard := none }) (v := ?_) rfl (by kernel_rfl) (by kernel_rfl) (by kernel_rfl) (by rfl) ?_ ?_
      rotate_left
      · intro W hW; first | (go_simp; done) | (go_simp; with_reducible rfl)
      try simp only [Act.put, List.setIfInBounds_toArray, List.set_cons_zero, List.set_cons_succ]
      refine wpG_take (i := 2) (oi := { dst := some 70, op := Op.move (Operand.tmp 69), type := 4, pos := "law.go:94", after := #[{ on := 1, ground := Ground.data }], guard := none }) (v := ?_) rfl (by kernel_rfl) (by kernel_rfl) (by kernel_rfl) (by rfl) ?_ ?_
      rotate_left
      · intro W hW; first | (go_simp; done) | (go_simp; with_reducible rfl)
      try simp only [Act.put, List.setIfInBounds_toArray, List.set_cons_zero, List.set_cons_succ]
      refine wpG_take (i := 3) (oi := { dst := some 71, op := Op.move (Operand.tmp 13), type := 29, pos := "law.go:94", after := #[{ on := 2, ground := Ground.guard }], guard := some (2, false) }) (v := ?_) rfl (by kernel_rfl) (by kernel_rfl) (by kernel_rfl) (by rfl) ?_ ?_
      rotate_left
      · intro W hW; first | (go_simp; done) | (go_simp; with_reducible rfl)
      try simp only [Act.put, List.setIfInBounds_toArray, List.set_cons_zero, List.set_cons_succ]
      refine wpG_take (i := 4) (oi := { dst := some 72, op := Op.binOp BinOp.neq 29 (Operand.tmp 71) (Operand.const (Value.int IntKind.i64 0)) 29, type := 4, pos := "law.go:94", after := #[{ on := 3, ground := Ground.data }, { on := 2, ground := Ground.guard }], guard := some (2, false) }) (v := ?_) rfl (by kernel_rfl) (by kernel_rfl) (by kernel_rfl) (by rfl) ?_ ?_
      rotate_left
      · intro W hW; first | (go_simp; done) | (go_simp; with_reducible rfl)
      try simp only [Act.put, List.setIfInBounds_toArray, List.set_cons_zero, List.set_cons_succ]
      refine wpG_take (i := 5) (oi := { dst := some 73, op := Op.pick (Operand.tmp 70) (Operand.const (Value.bool true)) (Operand.tmp 72), type := 4, pos := "law.go:94", after := #[{ on := 2, ground := Ground.data }, { on := 4, ground := Ground.data }], guard := none }) (v := ?_) rfl (by kernel_rfl) (by kernel_rfl) (by kernel_rfl) (by rfl) ?_ ?_
      rotate_left
      · intro W hW; first | (go_simp; done) | (go_simp; with_reducible rfl)
      try simp only [Act.put, List.setIfInBounds_toArray, List.set_cons_zero, List.set_cons_succ]
      refine wpG_take (i := 6) (oi := { dst := some 74, op := Op.move (Operand.tmp 73), type := 4, pos := "law.go:94", after := #[{ on := 5, ground := Ground.data }, { on := 2, ground := Ground.chain }], guard := none }) (v := ?_) rfl (by kernel_rfl) (by kernel_rfl) (by kernel_rfl) (by rfl) ?_ ?_
      rotate_left
      · intro W hW; first | (go_simp; done) | (go_simp; with_reducible rfl)
      try simp only [Act.put, List.setIfInBounds_toArray, List.set_cons_zero, List.set_cons_succ]
      refine wpG_take (i := 7) (oi := { dst := some 75, op := Op.load 25 (Operand.tmp 10), type := 25, pos := "law.go:94", after := #[{ on := 6, ground := Ground.guard }], guard := some (6, false) }) (v := ?_) rfl (by kernel_rfl) (by kernel_rfl) (by kernel_rfl) (by rfl) ?_ ?_
      rotate_left
      · intro W hW; refine Eq.trans (exec_load_row' 25 _ (by rfl) (by rfl) rX hW _ Tryd.underlying25 rfl (poInfoS _)) ?_; with_reducible rfl
      try simp only [Act.put, List.setIfInBounds_toArray, List.set_cons_zero, List.set_cons_succ]
      refine wpG_take (i := 8) (oi := { dst := some 76, op := Op.load 24 (Operand.tmp 8), type := 24, pos := "law.go:94", after := #[{ on := 6, ground := Ground.guard }], guard := some (6, false) }) (v := ?_) rfl (by kernel_rfl) (by kernel_rfl) (by kernel_rfl) (by rfl) ?_ ?_
      rotate_left
      · intro W hW; refine Eq.trans (exec_load_row' 24 _ (by rfl) (by rfl) rw1 hW _ Tryd.underlying24 rfl (poInfo _)) ?_; with_reducible rfl
      try simp only [Act.put, List.setIfInBounds_toArray, List.set_cons_zero, List.set_cons_succ]
      refine wpG_take (i := 9) (oi := { dst := some 77, op := Op.binOp BinOp.neq 25 (Operand.tmp 75) (Operand.tmp 76) 25, type := 4, pos := "law.go:94", after := #[{ on := 7, ground := Ground.data }, { on := 8, ground := Ground.data }, { on := 6, ground := Ground.guard }], guard := some (6, false) }) (v := ?_) rfl (by kernel_rfl) (by kernel_rfl) (by kernel_rfl) (by rfl) ?_ ?_
      rotate_left
      · intro W hW; have qx := QX.out W; first | (go_simp; done) | (go_simp; with_reducible rfl)
      try simp only [Act.put, List.setIfInBounds_toArray, List.set_cons_zero, List.set_cons_succ]
      refine wpG_take (i := 10) (oi := { dst := some 78, op := Op.pick (Operand.tmp 74) (Operand.const (Value.bool true)) (Operand.tmp 77), type := 4, pos := "law.go:94", after := #[{ on := 6, ground := Ground.data }, { on := 9, ground := Ground.data }], guard := none }) (v := ?_) rfl (by kernel_rfl) (by kernel_rfl) (by kernel_rfl) (by rfl) ?_ ?_
      rotate_left
      · intro W hW; first | (go_simp; done) | (go_simp; with_reducible rfl)
      try simp only [Act.put, List.setIfInBounds_toArray, List.set_cons_zero, List.set_cons_succ]
      refine wpG_take (i := 11) (oi := { dst := some 79, op := Op.move (Operand.tmp 78), type := 4, pos := "law.go:94", after := #[{ on := 10, ground := Ground.data }, { on := 6, ground := Ground.chain }], guard := none }) (v := ?_) rfl (by kernel_rfl) (by kernel_rfl) (by kernel_rfl) (by rfl) ?_ ?_
      rotate_left
      · intro W hW; first | (go_simp; done) | (go_simp; with_reducible rfl)
      try simp only [Act.put, List.setIfInBounds_toArray, List.set_cons_zero, List.set_cons_succ]
      refine wpG_take (i := 12) (oi := { dst := some 80, op := Op.move (Operand.tmp 0), type := 3, pos := "law.go:94", after := #[{ on := 11, ground := Ground.guard }], guard := some (11, false) }) (v := ?_) rfl (by kernel_rfl) (by kernel_rfl) (by kernel_rfl) (by rfl) ?_ ?_
      rotate_left
      · intro W hW; first | (go_simp; done) | (go_simp; with_reducible rfl)
      try simp only [Act.put, List.setIfInBounds_toArray, List.set_cons_zero, List.set_cons_succ]
      refine wpG_take (i := 13) (oi := { dst := some 81, op := Op.binOp BinOp.lss 3 (Operand.tmp 80) (Operand.const (Value.int IntKind.i64 12)) 3, type := 4, pos := "law.go:94", after := #[{ on := 12, ground := Ground.data }, { on := 11, ground := Ground.guard }], guard := some (11, false) }) (v := ?_) rfl (by kernel_rfl) (by kernel_rfl) (by kernel_rfl) (by rfl) ?_ ?_
      rotate_left
      · intro W hW; first | (go_simp; done) | (go_simp; with_reducible rfl)
      try simp only [Act.put, List.setIfInBounds_toArray, List.set_cons_zero, List.set_cons_succ]
      refine wpG_take (i := 14) (oi := { dst := some 82, op := Op.move (Operand.tmp 81), type := 4, pos := "law.go:94", after := #[{ on := 13, ground := Ground.data }, { on := 11, ground := Ground.chain }, { on := 11, ground := Ground.guard }], guard := some (11, false) }) (v := ?_) rfl (by kernel_rfl) (by kernel_rfl) (by kernel_rfl) (by rfl) ?_ ?_
      rotate_left
      · intro W hW; first | (go_simp; done) | (go_simp; with_reducible rfl)
      try simp only [Act.put, List.setIfInBounds_toArray, List.set_cons_zero, List.set_cons_succ]
      refine wpG_take (i := 15) (oi := { dst := some 83, op := Op.move (Operand.tmp 14), type := 22, pos := "law.go:94", after := #[{ on := 14, ground := Ground.guard }], guard := some (14, true) }) (v := ?_) rfl (by kernel_rfl) (by kernel_rfl) (by kernel_rfl) (by rfl) ?_ ?_
      rotate_left
      · intro W hW; first | (go_simp; done) | (go_simp; with_reducible rfl)
      try simp only [Act.put, List.setIfInBounds_toArray, List.set_cons_zero, List.set_cons_succ]
      refine wpG_take (i := 16) (oi := { dst := some 84, op := Op.convert 22 9 (Operand.tmp 83), type := 9, pos := "law.go:94", after := #[{ on := 15, ground := Ground.data }, { on := 14, ground := Ground.guard }], guard := some (14, true) }) (v := ?_) rfl (by kernel_rfl) (by kernel_rfl) (by kernel_rfl) (by rfl) ?_ ?_
      rotate_left
      · intro W hW; have hcv := convS (xc.kept hW); first | (go_simp; done) | (go_simp; with_reducible rfl)
      try simp only [Act.put, List.setIfInBounds_toArray, List.set_cons_zero, List.set_cons_succ]
      refine wpG_take (i := 17) (oi := { dst := some 85, op := Op.move (Operand.tmp 0), type := 3, pos := "law.go:94", after := #[{ on := 14, ground := Ground.guard }], guard := some (14, true) }) (v := ?_) rfl (by kernel_rfl) (by kernel_rfl) (by kernel_rfl) (by rfl) ?_ ?_
      rotate_left
      · intro W hW; first | (go_simp; done) | (go_simp; with_reducible rfl)
      try simp only [Act.put, List.setIfInBounds_toArray, List.set_cons_zero, List.set_cons_succ]
      refine wpG_take (i := 18) (oi := { dst := some 86, op := Op.binOp BinOp.mul 3 (Operand.const (Value.int IntKind.i64 32)) (Operand.tmp 85) 3, type := 3, pos := "law.go:94", after := #[{ on := 17, ground := Ground.data }, { on := 14, ground := Ground.guard }], guard := some (14, true) }) (v := ?_) rfl (by kernel_rfl) (by kernel_rfl) (by kernel_rfl) (by rfl) ?_ ?_
      rotate_left
      · intro W hW; first | (go_simp; done) | (go_simp; with_reducible rfl)
      try simp only [Act.put, List.setIfInBounds_toArray, List.set_cons_zero, List.set_cons_succ]
      refine wpG_take (i := 19) (oi := { dst := some 87, op := Op.slice 43 (Operand.tmp 5) none (some (Operand.tmp 86)) none, type := 22, pos := "law.go:94", after := #[{ on := 18, ground := Ground.data }, { on := 14, ground := Ground.guard }], guard := some (14, true) }) (v := ?_) rfl (by kernel_rfl) (by kernel_rfl) (by kernel_rfl) (by rfl) ?_ ?_
      rotate_left
      · intro W hW; first | (go_simp; done) | (go_simp; with_reducible rfl)
      try simp only [Act.put, List.setIfInBounds_toArray, List.set_cons_zero, List.set_cons_succ]
      refine wpG_take (i := 20) (oi := { dst := some 88, op := Op.convert 22 9 (Operand.tmp 87), type := 9, pos := "law.go:94", after := #[{ on := 19, ground := Ground.data }, { on := 14, ground := Ground.guard }], guard := some (14, true) }) (v := ?_) rfl (by kernel_rfl) (by kernel_rfl) (by kernel_rfl) (by rfl) ?_ ?_
      rotate_left
      · intro W hW; have hcv := convS (HRB.out _ (rb.kept hW)); first | (go_simp; done) | (go_simp; with_reducible rfl)
      try simp only [Act.put, List.setIfInBounds_toArray, List.set_cons_zero, List.set_cons_succ]
      refine wpG_take (i := 21) (oi := { dst := some 89, op := Op.binOp BinOp.neq 9 (Operand.tmp 84) (Operand.tmp 88) 9, type := 4, pos := "law.go:94", after := #[{ on := 16, ground := Ground.data }, { on := 20, ground := Ground.data }, { on := 14, ground := Ground.guard }], guard := some (14, true) }) (v := ?_) rfl (by kernel_rfl) (by kernel_rfl) (by kernel_rfl) (by rfl) ?_ ?_
      rotate_left
      · intro W hW; have hcb := HC.out; first | (go_simp; done) | (go_simp; with_reducible rfl)
      try simp only [Act.put, List.setIfInBounds_toArray, List.set_cons_zero, List.set_cons_succ]
      refine wpG_take (i := 22) (oi := { dst := some 90, op := Op.pick (Operand.tmp 82) (Operand.tmp 89) (Operand.const (Value.bool false)), type := 4, pos := "law.go:94", after := #[{ on := 14, ground := Ground.data }, { on := 21, ground := Ground.data }, { on := 11, ground := Ground.guard }], guard := some (11, false) }) (v := ?_) rfl (by kernel_rfl) (by kernel_rfl) (by kernel_rfl) (by rfl) ?_ ?_
      rotate_left
      · intro W hW; first | (go_simp; done) | (go_simp; with_reducible rfl)
      try simp only [Act.put, List.setIfInBounds_toArray, List.set_cons_zero, List.set_cons_succ]
      refine wpG_take (i := 23) (oi := { dst := some 91, op := Op.pick (Operand.tmp 79) (Operand.const (Value.bool true)) (Operand.tmp 90), type := 4, pos := "law.go:94", after := #[{ on := 11, ground := Ground.data }, { on := 22, ground := Ground.data }], guard := none }) (v := ?_) rfl (by kernel_rfl) (by kernel_rfl) (by kernel_rfl) (by rfl) ?_ ?_
      rotate_left
      · intro W hW; first | (go_simp; done) | (go_simp; with_reducible rfl)
      try simp only [Act.put, List.setIfInBounds_toArray, List.set_cons_zero, List.set_cons_succ]
      refine wpG_done (by kernel_rfl) ?_
      clear QX HX rb HRB rX HC
      go_wp2_with fail
      refine (sunpack_any d _ rfl HD.out.1 HD.out.2 _ c _ xc HKL.out).mono ?_
      rintro e y5 ⟨he, bn⟩
      obtain ⟨Z, hZ⟩ : ∃ Z : Nat → FZ, Z = upF d c := ⟨_, rfl⟩
      rw [← hZ] at he HZ
      subst he
      clear hZ
      have hb0 := bn
      go_wp2_with (refine wpList_alloc_row (k := .i64) rfl 25 rfl (gI fun _ => 0) (alloc_poS _) (gI_ne _) (poMax _) ?_)
      intro zrZ ro bo so
      rw [gI_length] at ro
      replace hb0 := stepB hb0 bo
      clear so bo
      go_wp2_with (refine wpList_store_row rfl 25 _ _ rfl (gI (fzF Z)) rfl rfl ro (by rw [gI_length, gI_length]) (poInfoS _) ?_)
      intro urZ rZ hw
      replace hb0 := hw.below _ _ bn.size hb0
      replace rw1 := rw1.kept hb0
      replace rY := rY.kept hb0
      replace xc := xc.kept hb0
      replace hbw := stepB hbw hb0
      clear hb0 hw bn ro
      have qZ : ∀ w, _ := eq_poS (f := Z) (g := Y) HZ.out
      unfold poV at qZ
      go_wp2_with (first
        | refine wpList_valG (exec_load_row' 25 (.tmp 15) rfl rfl rZ (Below.refl _ _) _ Tryd.underlying25 rfl (poInfoS _)) (by go_simp; done) ?_
        | refine wpList_valG (exec_load_row' 25 (.tmp 12) rfl rfl rY (Below.refl _ _) _ Tryd.underlying25 rfl (poInfoS _)) (by go_simp; done) ?_)
      clear qZ rZ rY xc
      replace rw1 := rw1.drew
      replace hbw := hbw.drew
      have HQ : Hid (gI (fun k => ((cpA (d : Int) ((dcA (d : Int) (fzF R k) : Nat) : Int) : Nat) : Int)) = gI (fzF R)) := by
        show _ = _
        rw [HR.out]
        exact gI_congr fun k _ => cp_back d _ rfl h1 h2 F k
      refine wpG_begin (by kernel_rfl) ?_
      refine wpG_take (i := 0) (oi := { dst := some 105, op := Op.move (Operand.tmp 0), type := 3, pos := "law.go:101", after := #[], guard := none }) (v := ?_) rfl (by kernel_rfl) (by kernel_rfl) (by kernel_rfl) (by rfl) ?_ ?_
      rotate_left
      · intro W hW; first | (go_simp; done) | (go_simp; with_reducible rfl)
      try simp only [Act.put, List.setIfInBounds_toArray, List.set_cons_zero, List.set_cons_succ]
      refine wpG_take (i := 1) (oi := { dst := some 106, op := Op.binOp BinOp.eql 3 (Operand.tmp 105) (Operand.const (Value.int IntKind.i64 12)) 3, type := 4, pos := "law.go:101", after := #[{ on := 0, ground := Ground.data }], guard := none }) (v := ?_) rfl (by kernel_rfl) (by kernel_rfl) (by kernel_rfl) (by rfl) ?_ ?_
      rotate_left
      · intro W hW; first | (go_simp; done) | (go_simp; with_reducible rfl)
      try simp only [Act.put, List.setIfInBounds_toArray, List.set_cons_zero, List.set_cons_succ]
      refine wpG_take (i := 2) (oi := { dst := some 107, op := Op.move (Operand.tmp 106), type := 4, pos := "law.go:101", after := #[{ on := 1, ground := Ground.data }], guard := none }) (v := ?_) rfl (by kernel_rfl) (by kernel_rfl) (by kernel_rfl) (by rfl) ?_ ?_
      rotate_left
      · intro W hW; first | (go_simp; done) | (go_simp; with_reducible rfl)
      try simp only [Act.put, List.setIfInBounds_toArray, List.set_cons_zero, List.set_cons_succ]
      refine wpG_take (i := 3) (oi := { dst := some 108, op := Op.move (Operand.tmp 0), type := 3, pos := "law.go:101", after := #[{ on := 2, ground := Ground.guard }], guard := some (2, false) }) (v := ?_) rfl (by kernel_rfl) (by kernel_rfl) (by kernel_rfl) (by rfl) ?_ ?_
      rotate_left
      · intro W hW; first | (go_simp; done) | (go_simp; with_reducible rfl)
      try simp only [Act.put, List.setIfInBounds_toArray, List.set_cons_zero, List.set_cons_succ]
      refine wpG_take (i := 4) (oi := { dst := some 109, op := Op.move (Operand.tmp 0), type := 3, pos := "law.go:101", after := #[{ on := 2, ground := Ground.guard }], guard := some (2, false) }) (v := ?_) rfl (by kernel_rfl) (by kernel_rfl) (by kernel_rfl) (by rfl) ?_ ?_
      rotate_left
      · intro W hW; first | (go_simp; done) | (go_simp; with_reducible rfl)
      try simp only [Act.put, List.setIfInBounds_toArray, List.set_cons_zero, List.set_cons_succ]
      refine wpG_take (i := 5) (oi := { dst := some 110, op := Op.load 24 (Operand.tmp 8), type := 24, pos := "law.go:101", after := #[{ on := 2, ground := Ground.guard }], guard := some (2, false) }) (v := ?_) rfl (by kernel_rfl) (by kernel_rfl) (by kernel_rfl) (by rfl) ?_ ?_
      rotate_left
      · intro W hW; refine Eq.trans (exec_load_row' 24 _ (by rfl) (by rfl) rw1 hW _ Tryd.underlying24 rfl (poInfo _)) ?_; with_reducible rfl
      try simp only [Act.put, List.setIfInBounds_toArray, List.set_cons_zero, List.set_cons_succ]
      refine wpG_take (i := 8) (oi := { dst := some 113, op := Op.load 24 (Operand.tmp 8), type := 24, pos := "law.go:101", after := #[{ on := 2, ground := Ground.guard }], guard := some (2, false) }) (v := ?_) rfl (by kernel_rfl) (by kernel_rfl) (by kernel_rfl) (by rfl) ?_ ?_
      rotate_left
      · intro W hW; refine Eq.trans (exec_load_row' 24 _ (by rfl) (by rfl) rw1 hW _ Tryd.underlying24 rfl (poInfo _)) ?_; with_reducible rfl
      try simp only [Act.put, List.setIfInBounds_toArray, List.set_cons_zero, List.set_cons_succ]
      refine wpG_do (i := 6) (o := { dst := some 111, op := Op.call { callee := Callee.value (Operand.func 22), args := #[Operand.tmp 109, Operand.tmp 110], argTypes := #[3, 25] }, type := 25, pos := "law.go:101", after := #[{ on := 4, ground := Ground.data }, { on := 5, ground := Ground.data }, { on := 2, ground := Ground.chain }, { on := 2, ground := Ground.guard }], guard := some (2, false) }) (by kernel_rfl) rfl (by rfl) fun K hK => ?_
      go_simp
      refine (sspread_any d _ (fzF R) (Po.fz _) rfl _).mono ?_
      rintro e y6 ⟨he, b6⟩
      have HPo : Hid (Po fun k => ((dcA (d : Int) (fzF R k) : Nat) : Int)) := dc_po _ _
      obtain ⟨G1, hG1⟩ : ∃ G : Nat → Int, G = fun k => ((dcA (d : Int) (fzF R k) : Nat) : Int) := ⟨_, rfl⟩
      rw [← hG1] at he HPo
      have HG1 : Hid _ := hG1
      clear hG1
      subst he
      replace rw1 := rw1.kept b6
      replace hbw := stepB hbw b6
      refine hK.out _ _ b6 ?_
      clear hK K
      try simp only [Act.put, List.setIfInBounds_toArray, List.set_cons_zero, List.set_cons_succ]
      refine wpG_do (i := 7) (o := { dst := some 112, op := Op.call { callee := Callee.value (Operand.func 20), args := #[Operand.tmp 108, Operand.tmp 111], argTypes := #[3, 25] }, type := 25, pos := "law.go:101", after := #[{ on := 3, ground := Ground.data }, { on := 6, ground := Ground.data }, { on := 6, ground := Ground.chain }, { on := 2, ground := Ground.guard }], guard := some (2, false) }) (by kernel_rfl) rfl (by rfl) fun K hK => ?_
      go_simp
      refine (ssqueeze_any d _ G1 HPo.out rfl _).mono ?_
      rintro e y7 ⟨he, b7⟩
      obtain ⟨G2, hG2⟩ : ∃ G : Nat → Int, G = fun k => ((cpA (d : Int) (G1 k) : Nat) : Int) := ⟨_, rfl⟩
      rw [← hG2] at he
      have HG2 : Hid (gI G2 = gI (fzF R)) := by show _ = _; rw [hG2, HG1.out]; exact HQ.out
      clear hG2
      subst he
      replace rw1 := rw1.kept b7
      replace hbw := stepB hbw b7
      refine hK.out _ _ b7 ?_
      clear hK K
      try simp only [Act.put, List.setIfInBounds_toArray, List.set_cons_zero, List.set_cons_succ]
      refine wpG_take (i := 9) (oi := { dst := some 114, op := Op.binOp BinOp.eql 25 (Operand.tmp 112) (Operand.tmp 113) 25, type := 4, pos := "law.go:101", after := #[{ on := 7, ground := Ground.data }, { on := 8, ground := Ground.data }, { on := 2, ground := Ground.guard }], guard := some (2, false) }) (v := ?_) rfl (by kernel_rfl) (by kernel_rfl) (by kernel_rfl) (by rfl) ?_ ?_
      rotate_left
      · intro W hW; have he := eq_gIS (F := G2) (G := fzF R) HG2.out W; first | (go_simp; done) | (go_simp; with_reducible rfl)
      try simp only [Act.put, List.setIfInBounds_toArray, List.set_cons_zero, List.set_cons_succ]
      refine wpG_take (i := 10) (oi := { dst := some 115, op := Op.pick (Operand.tmp 107) (Operand.const (Value.bool true)) (Operand.tmp 114), type := 4, pos := "law.go:101", after := #[{ on := 2, ground := Ground.data }, { on := 9, ground := Ground.data }], guard := none }) (v := ?_) rfl (by kernel_rfl) (by kernel_rfl) (by kernel_rfl) (by rfl) ?_ ?_
      rotate_left
      · intro W hW; first | (go_simp; done) | (go_simp; with_reducible rfl)
      try simp only [Act.put, List.setIfInBounds_toArray, List.set_cons_zero, List.set_cons_succ]
      refine wpG_take (i := 11) (oi := { dst := some 6, op := Op.assign (Operand.tmp 115), type := 4, pos := "law.go:101", after := #[{ on := 10, ground := Ground.data }, { on := 7, ground := Ground.chain }, { on := 0, ground := Ground.phase }, { on := 1, ground := Ground.phase }, { on := 2, ground := Ground.phase }, { on := 3, ground := Ground.phase }, { on := 4, ground := Ground.phase }, { on := 5, ground := Ground.phase }, { on := 6, ground := Ground.phase }, { on := 7, ground := Ground.phase }, { on := 8, ground := Ground.phase }, { on := 9, ground := Ground.phase }, { on := 10, ground := Ground.phase }], guard := none }) (v := ?_) rfl (by kernel_rfl) (by kernel_rfl) (by kernel_rfl) (by rfl) ?_ ?_
      rotate_left
      · intro W hW; first | (go_simp; done) | (go_simp; with_reducible rfl)
      try simp only [Act.put, List.setIfInBounds_toArray, List.set_cons_zero, List.set_cons_succ]
      refine wpG_done (by kernel_rfl) ?_
      go_wp2
      go_ret
      exact ⟨rfl, hbw⟩

theorem back_walk (D : Int) (A : Array Value) (F : Nat → Int) (hF : Po F) (hA : A = ((gI F).map (Value.int .i64)).toArray) (C : Array Value) (l : List UInt8) (hl : l.length = 384) (hC : C = ((byI l).map (Value.int .u8)).toArray) (w : World) (hT : Tabs w) :
    Calls Tryd.prog 7 #[.int .i64 D, .agg A, .agg C] w fun e w' => e = .returned (.bool true) ∧ Below w.heap.size w w' := by
  by_cases h : 1 ≤ D ∧ D ≤ 12
  · obtain ⟨d, rfl⟩ : ∃ d : Nat, D = (d : Int) := ⟨D.toNat, by omega⟩
    by_cases h2 : d = 12
    · subst h2
      exact back_12 A F hF hA C l hl hC w hT
    · exact back_in d (by omega) (by omega) A F hF hA C l hl hC w hT
  · exact back_out D h A F hA C l hl hC w hT
end Go.Proofs.YtlcnepnappfjeaaDoor
