/- What Theta answers: a contract of package keccak, third part. -/
import Derived.Test.YtlcnepnappfjeaaDoorK02b
namespace Go.Proofs.YtlcnepnappfjeaaDoor
open Go.ChangeShapes Go.WideShapes Go.ChangeAt Go.RowKit
set_option linter.unusedSimpArgs false
set_option linter.unusedVariables false

/-! ### Sums of columns, as far as they have come -/
def cS (f : Nat → Nat) : Nat → Nat → Nat
  | 0, _ => 0
  | j + 1, x => if j % 5 = x then cS f j x ^^^ f j else cS f j x
theorem cS_lt (f : Nat → Nat) (hf : ∀ i, f i < 18446744073709551616) : ∀ j x, cS f j x < 18446744073709551616
  | 0, _ => by simp [cS]
  | j + 1, x => by
    unfold cS
    split
    · exact xor_lt64 (cS_lt f hf j x) (hf j)
    · exact cS_lt f hf j x
theorem cS_done (f : Nat → Nat) (x : Nat) (hx : x < 5) : cS f 25 x = colN f x := by
  have h : x = 0 ∨ x = 1 ∨ x = 2 ∨ x = 3 ∨ x = 4 := by omega
  rcases h with rfl | rfl | rfl | rfl | rfl <;> simp [cS, colN]
def sL (f : Nat → Nat) (j : Nat) : List Int := (List.range 5).map fun x => ((cS f j x : Nat) : Int)
theorem sL_length (f : Nat → Nat) (j : Nat) : (sL f j).length = 5 := by simp [sL]
theorem sL_ne (f : Nat → Nat) (j : Nat) : sL f j ≠ [] := by
  intro h
  have := sL_length f j
  rw [h] at this
  simp at this
theorem sL_get (f : Nat → Nat) (j x : Nat) (hx : x < 5) : (sL f j).getD x 0 = ((cS f j x : Nat) : Int) := by simp [sL, hx]
theorem sL_set (f : Nat → Nat) (j : Nat) : (sL f j).set (j % 5) ((cS f j (j % 5) ^^^ f j : Nat) : Int) = sL f (j + 1) := by
  refine List.ext_getElem (by simp [sL]) fun i h1 h2 => ?_
  simp only [sL, List.getElem_set, List.getElem_map, List.getElem_range, cS]
  by_cases e : j % 5 = i
  · subst e; simp
  · simp [e]
theorem sL_zero (f : Nat → Nat) : #[Value.int .u64 0, .int .u64 0, .int .u64 0, .int .u64 0, .int .u64 0] = ((sL f 0).map (Value.int .u64)).toArray := rfl

/-! ### Columns that are replaced one after the other -/
def thR (f : Nat → Nat) (X Y k : Nat) : Nat := if k % 5 < X ∨ (k % 5 = X ∧ k / 5 < Y) then thL f k else f k
theorem thR_zero (f : Nat → Nat) : stL f = stL (thR f 0 0) := stL_congr fun i hi => by simp [thR]
theorem thR_next (f : Nat → Nat) (X : Nat) : stL (thR f X 5) = stL (thR f (X + 1) 0) := stL_congr fun i hi => by
  unfold thR
  have h1 : (i % 5 < X ∨ i % 5 = X ∧ i / 5 < 5) ↔ (i % 5 < X + 1 ∨ i % 5 = X + 1 ∧ i / 5 < 0) := by omega
  simp only [h1]
theorem thR_done (f : Nat → Nat) : stL (thR f 5 0) = stL (thL f) := stL_congr fun i hi => by
  unfold thR
  rw [if_pos (by omega)]
theorem thR_get (f : Nat → Nat) (X Y : Nat) (hX : X < 5) : thR f X Y (X + 5 * Y) = f (X + 5 * Y) := by
  unfold thR
  rw [if_neg (by omega)]
theorem thR_set (f : Nat → Nat) (X Y : Nat) (hX : X < 5) (hY : Y < 5) : (stL (thR f X Y)).set (X + 5 * Y) ((thL f (X + 5 * Y) : Nat) : Int) = stL (thR f X (Y + 1)) := by
  rw [stL_set]
  refine stL_congr fun i hi => ?_
  unfold thR
  by_cases e : i = X + 5 * Y
  · subst e
    rw [if_pos rfl, if_pos (by omega)]
  · rw [if_neg e]
    have h1 : (i % 5 < X ∨ i % 5 = X ∧ i / 5 < Y) ↔ (i % 5 < X ∨ i % 5 = X ∧ i / 5 < Y + 1) := by omega
    simp only [h1]
theorem th_add (f : Nat → Nat) (X Y : Nat) (hX : X < 5) : f (X + 5 * Y) ^^^ (colN f ((X + 4) % 5) ^^^ turnN (colN f ((X + 1) % 5)) 1) = thL f (X + 5 * Y) := by
  unfold thL
  rw [show (X + 5 * Y) % 5 = X by omega, Nat.xor_assoc]

theorem fiveInfo : (Tryd.prog.info? 86).map (·.size) = some 5 := by kernel_rfl

set_option maxRecDepth 100000 in
set_option maxHeartbeats 2000000 in
theorem kTheta_any (A : Array Value) (f : Nat → Nat) (hf : ∀ i, f i < 18446744073709551616) (hA : A = ((stL f).map (Value.int .u64)).toArray) (w : World) (ht : Tabs w) :
    Calls Tryd.prog 74 #[.agg A] w fun e w' => e = .returned (arrV (thL f)) ∧ Below w.heap.size w w' := by
  have HA : Hid _ := hA
  have HF : Hid (∀ i, f i < 18446744073709551616) := hf
  clear hA hf
  go_enter Tryd.func74, Tryd.ntmps74
  go_wp2
  rw [HA.out]
  obtain ⟨W, hW, hI, hs⟩ := two_rows f w _ zeros25 ht
  rw [hW]
  clear hW ht
  have rs : RowAt .u64 86 (w.heap.size + 2) 5 (sL f 0) (W.alloc (.cells #[Value.int .u64 0, .int .u64 0, .int .u64 0, .int .u64 0, .int .u64 0] 86)) :=
    RowAt.fresh (sL f 0) (sL_zero f) hs.symm (sL_length f 0).symm (sL_ne f 0) (by rw [sL_length]; simp [maxLen])
  have hI1 := hI.alloc (.cells #[Value.int .u64 0, .int .u64 0, .int .u64 0, .int .u64 0, .int .u64 0] 86)
  generalize W.alloc (.cells #[Value.int .u64 0, .int .u64 0, .int .u64 0, .int .u64 0, .int .u64 0] 86) = W1 at rs hI1
  clear hI hs
  go_loopw [8] (fun i wr => ∃ j : Nat, j ≤ 25 ∧ i = .int .i64 j ∧ KI w f wr ∧ RowAt .u64 86 (w.heap.size + 2) 5 (sL f j) wr) (fun i _ => 25 - (intOf i).toNat)
  case atStart => exact ⟨0, by omega, rfl, hI1, rs⟩
  case round =>
    obtain ⟨j, hj, rfl, hI2, rs2⟩ := hrel
    clear hI1 rs
    by_cases hlt : j < 25
    · have hd : decide ((j : Int) < 25) = true := decide_eq_true (by omega)
      have hjI : (j : Int) < 25 := by omega
      obtain ⟨m, hm⟩ : ∃ m : Nat, m = j % 5 := ⟨_, rfl⟩
      have bm : (m : Int) < 5 := by omega
      have t0 : (j : Int).tmod 5 = (m : Int) := by rw [hm]; exact Int.tmod_eq_emod_of_nonneg (by omega)
      have u0 : (j : Int) % 5 = (m : Int) := by omega
      have hc := hI2.a.cell (j := j) (by rw [stL_length]; exact hlt)
      rw [stL_get _ j hlt] at hc
      have cs := rs2.cell (j := m) (by rw [sL_length]; omega)
      rw [sL_get _ _ _ (by omega)] at cs
      have fs := rs2.free m
      have HX : Hid _ := xorI (cS f j m) (f j) (cS_lt f HF.out _ _) (HF.out j)
      have HS : Hid (∀ x : Int, x = ((cS f j m ^^^ f j : Nat) : Int) → RowAt .u64 86 (w.heap.size + 2) 5 (sL f (j + 1)) (wr.setCell ⟨w.heap.size + 2, m, none⟩ (.int .u64 x)) ∧ KI w f (wr.setCell ⟨w.heap.size + 2, m, none⟩ (.int .u64 x))) := by
        intro x hx
        refine ⟨?_, hI2.other (Wrote.set _ m wr _) (Nat.le_refl _)⟩
        rw [← sL_set, ← hm, ← hx]
        exact rs2.set m x
      generalize f j = q0 at hc HX HS
      generalize cS f j m = q1 at cs HX HS
      clear hI2 rs2 hm
      go_wp2_with fail
      refine wpE_begin 9 (by kernel_rfl) ?_
      refine wpE_take (i := 0) (oi := { dst := some 11, op := Op.move (Operand.tmp 4), type := 3, pos := "keccak.go:37", after := #[], guard := none }) (v := ?_) rfl (by decide) (by kernel_rfl) (by kernel_rfl) (by kernel_rfl) (by kernel_rfl) (by rfl) ?_ ?_
      rotate_left
      · intro W hW; first | (go_simp; done) | (go_simp; with_reducible rfl)
      try simp only [Act.put, List.setIfInBounds_toArray, List.set_cons_zero, List.set_cons_succ]
      refine wpE_take (i := 1) (oi := { dst := some 12, op := Op.binOp BinOp.rem 3 (Operand.tmp 11) (Operand.const (Value.int IntKind.i64 5)) 3, type := 3, pos := "keccak.go:37", after := #[{ on := 0, ground := Ground.data }], guard := none }) (v := ?_) rfl (by decide) (by kernel_rfl) (by kernel_rfl) (by kernel_rfl) (by kernel_rfl) (by rfl) ?_ ?_
      rotate_left
      · intro W hW; first | (go_simp; done) | (go_simp; with_reducible rfl)
      try simp only [Act.put, List.setIfInBounds_toArray, List.set_cons_zero, List.set_cons_succ]
      refine wpE_take (i := 2) (oi := { dst := some 13, op := Op.indexAddr 86 (Operand.tmp 3) (Operand.tmp 12), type := 0, pos := "keccak.go:37", after := #[{ on := 1, ground := Ground.data }], guard := none }) (v := ?_) rfl (by decide) (by kernel_rfl) (by kernel_rfl) (by kernel_rfl) (by kernel_rfl) (by rfl) ?_ ?_
      rotate_left
      · intro W hW; first | (go_simp; done) | (go_simp; with_reducible rfl)
      try simp only [Act.put, List.setIfInBounds_toArray, List.set_cons_zero, List.set_cons_succ]
      refine wpE_take (i := 3) (oi := { dst := some 14, op := Op.load 65 (Operand.tmp 13), type := 65, pos := "keccak.go:37", after := #[{ on := 2, ground := Ground.data }], guard := none }) (v := ?_) rfl (by decide) (by kernel_rfl) (by kernel_rfl) (by kernel_rfl) (by kernel_rfl) (by rfl) ?_ ?_
      rotate_left
      · intro W hW; have hcW := cellU cs hW; first | (go_simp; done) | (go_simp; with_reducible rfl)
      try simp only [Act.put, List.setIfInBounds_toArray, List.set_cons_zero, List.set_cons_succ]
      refine wpE_take (i := 4) (oi := { dst := some 15, op := Op.move (Operand.tmp 4), type := 3, pos := "keccak.go:37", after := #[], guard := none }) (v := ?_) rfl (by decide) (by kernel_rfl) (by kernel_rfl) (by kernel_rfl) (by kernel_rfl) (by rfl) ?_ ?_
      rotate_left
      · intro W hW; first | (go_simp; done) | (go_simp; with_reducible rfl)
      try simp only [Act.put, List.setIfInBounds_toArray, List.set_cons_zero, List.set_cons_succ]
      refine wpE_take (i := 5) (oi := { dst := some 16, op := Op.indexAddr 66 (Operand.tmp 1) (Operand.tmp 15), type := 0, pos := "keccak.go:37", after := #[{ on := 4, ground := Ground.data }], guard := none }) (v := ?_) rfl (by decide) (by kernel_rfl) (by kernel_rfl) (by kernel_rfl) (by kernel_rfl) (by rfl) ?_ ?_
      rotate_left
      · intro W hW; first | (go_simp; done) | (go_simp; with_reducible rfl)
      try simp only [Act.put, List.setIfInBounds_toArray, List.set_cons_zero, List.set_cons_succ]
      refine wpE_take (i := 6) (oi := { dst := some 17, op := Op.load 65 (Operand.tmp 16), type := 65, pos := "keccak.go:37", after := #[{ on := 5, ground := Ground.data }], guard := none }) (v := ?_) rfl (by decide) (by kernel_rfl) (by kernel_rfl) (by kernel_rfl) (by kernel_rfl) (by rfl) ?_ ?_
      rotate_left
      · intro W hW; have hcW := cellU hc hW; first | (go_simp; done) | (go_simp; with_reducible rfl)
      try simp only [Act.put, List.setIfInBounds_toArray, List.set_cons_zero, List.set_cons_succ]
      refine wpE_take (i := 7) (oi := { dst := some 18, op := Op.binOp BinOp.xor 65 (Operand.tmp 14) (Operand.tmp 17) 65, type := 65, pos := "keccak.go:37", after := #[{ on := 3, ground := Ground.data }, { on := 6, ground := Ground.data }], guard := none }) (v := ?_) rfl (by decide) (by kernel_rfl) (by kernel_rfl) (by kernel_rfl) (by kernel_rfl) (by rfl) ?_ ?_
      rotate_left
      · intro W hW; first | (go_simp; done) | (go_simp; with_reducible rfl)
      try simp only [Act.put, List.setIfInBounds_toArray, List.set_cons_zero, List.set_cons_succ]
      refine wpE_take (i := 8) (oi := { dst := some 19, op := Op.indexAddr 86 (Operand.tmp 3) (Operand.tmp 12), type := 0, pos := "keccak.go:37", after := #[{ on := 1, ground := Ground.data }, { on := 0, ground := Ground.phase }, { on := 1, ground := Ground.phase }, { on := 2, ground := Ground.phase }, { on := 3, ground := Ground.phase }, { on := 4, ground := Ground.phase }, { on := 5, ground := Ground.phase }, { on := 6, ground := Ground.phase }, { on := 7, ground := Ground.phase }], guard := none }) (v := ?_) rfl (by decide) (by kernel_rfl) (by kernel_rfl) (by kernel_rfl) (by kernel_rfl) (by rfl) ?_ ?_
      rotate_left
      · intro W hW; first | (go_simp; done) | (go_simp; with_reducible rfl)
      try simp only [Act.put, List.setIfInBounds_toArray, List.set_cons_zero, List.set_cons_succ]
      refine wpE_last (o := { dst := none, op := Op.store 65 (Operand.tmp 19) (Operand.tmp 18), type := 0, pos := "keccak.go:37", after := #[{ on := 8, ground := Ground.data }, { on := 7, ground := Ground.data }, { on := 0, ground := Ground.phase }, { on := 1, ground := Ground.phase }, { on := 2, ground := Ground.phase }, { on := 3, ground := Ground.phase }, { on := 4, ground := Ground.phase }, { on := 5, ground := Ground.phase }, { on := 6, ground := Ground.phase }, { on := 7, ground := Ground.phase }], guard := none }) (by kernel_rfl) (by kernel_rfl) rfl (by rfl) fun K hK => ?_
      go_simp
      refine hK.out _ _ ?_
      clear hK K
      try simp only [Act.put, List.setIfInBounds_toArray, List.set_cons_zero, List.set_cons_succ]

      obtain ⟨rs3, hI3⟩ := HS.out _ HX.out
      have hI4 := hI3.drew
      have rs4 := rs3.drew
      go_wp2
      go_roundw
      case rel => exact ⟨j + 1, by omega, by go_num, hI4, rs4⟩
      case measure => simp [intOf]; omega
    · have hje : j = 25 := by omega
      rw [hje] at rs2
      have hd0 : decide ((j : Int) < 25) = false := decide_eq_false (by omega)
      have hj0 : (25 : Int) ≤ j := by omega
      have hI3 : KI w (thR f 0 0) wr := ⟨thR_zero f ▸ hI2.a, hI2.r, hI2.b, hI2.t, hI2.two⟩
      clear hI2 hlt hj hje
      go_wp2
      go_loopw [21] (fun i wr => ∃ X : Nat, X ≤ 5 ∧ i = .int .i64 X ∧ KI w (thR f X 0) wr ∧ RowAt .u64 86 (w.heap.size + 2) 5 (sL f 25) wr) (fun i _ => 5 - (intOf i).toNat)
      case atStart => exact ⟨0, by omega, rfl, hI3, rs2⟩
      case round =>
        obtain ⟨X, hX, rfl, hI4, rs4⟩ := hrel
        clear hI3 rs2
        by_cases hlt : X < 5
        · have hd : decide ((X : Int) < 5) = true := decide_eq_true (by omega)
          have hXI : (X : Int) < 5 := by omega
          obtain ⟨m4, hm4⟩ : ∃ m : Nat, m = (X + 4) % 5 := ⟨_, rfl⟩
          obtain ⟨m1, hm1⟩ : ∃ m : Nat, m = (X + 1) % 5 := ⟨_, rfl⟩
          have b4 : (m4 : Int) < 5 := by omega
          have b1 : (m1 : Int) < 5 := by omega
          have v4 : IntKind.i64.wrap ((X : Int) + 4) = (X : Int) + 4 := IntWalk.i64_in _ (by omega)
          have v1 : IntKind.i64.wrap ((X : Int) + 1) = (X : Int) + 1 := IntWalk.i64_in _ (by omega)
          have t4 : ((X : Int) + 4).tmod 5 = (m4 : Int) := by rw [Int.tmod_eq_emod_of_nonneg (by omega)]; omega
          have t1 : ((X : Int) + 1).tmod 5 = (m1 : Int) := by rw [Int.tmod_eq_emod_of_nonneg (by omega)]; omega
          have u4 : ((X : Int) + 4) % 5 = (m4 : Int) := by omega
          have u1 : ((X : Int) + 1) % 5 = (m1 : Int) := by omega
          have c4 := rs4.cell (j := m4) (by rw [sL_length]; omega)
          have c1 := rs4.cell (j := m1) (by rw [sL_length]; omega)
          rw [sL_get _ _ _ (by omega), cS_done _ _ (by omega)] at c4 c1
          have HTA : Hid (∀ Y, f (X + 5 * Y) ^^^ (colN f m4 ^^^ turnN (colN f m1) 1) = thL f (X + 5 * Y)) := by
            intro Y
            rw [hm4, hm1]
            exact th_add f X Y hlt
          have h4 := colN_lt f HF.out m4
          have h1 := colN_lt f HF.out m1
          have HX : Hid _ := xorI (colN f m4) (turnN (colN f m1) 1) h4 (turnN_lt _ _ h1 (by decide))
          have HL : Hid (colN f m4 ^^^ turnN (colN f m1) 1 < 18446744073709551616) := xor_lt64 h4 (turnN_lt _ _ h1 (by decide))
          generalize colN f m4 = q4 at c4 HX HTA HL h4
          generalize colN f m1 = q1 at c1 HX HTA HL h1
          have HI : Hid _ := hI4
          have HR : Hid _ := rs4
          clear hI4 rs4 hm4 hm1
          go_wp2_with fail
          refine wpG_begin (by kernel_rfl) ?_
          refine wpG_take (i := 0) (oi := { dst := some 24, op := Op.move (Operand.tmp 5), type := 3, pos := "keccak.go:40", after := #[], guard := none }) (v := ?_) rfl (by kernel_rfl) (by kernel_rfl) (by kernel_rfl) (by rfl) ?_ ?_
          rotate_left
          · intro W hW; first | (go_simp; done) | (go_simp; with_reducible rfl)
          try simp only [Act.put, List.setIfInBounds_toArray, List.set_cons_zero, List.set_cons_succ]
          refine wpG_take (i := 1) (oi := { dst := some 25, op := Op.binOp BinOp.add 3 (Operand.tmp 24) (Operand.const (Value.int IntKind.i64 4)) 3, type := 3, pos := "keccak.go:40", after := #[{ on := 0, ground := Ground.data }], guard := none }) (v := ?_) rfl (by kernel_rfl) (by kernel_rfl) (by kernel_rfl) (by rfl) ?_ ?_
          rotate_left
          · intro W hW; first | (go_simp; done) | (go_simp; with_reducible rfl)
          try simp only [Act.put, List.setIfInBounds_toArray, List.set_cons_zero, List.set_cons_succ]
          refine wpG_take (i := 2) (oi := { dst := some 26, op := Op.binOp BinOp.rem 3 (Operand.tmp 25) (Operand.const (Value.int IntKind.i64 5)) 3, type := 3, pos := "keccak.go:40", after := #[{ on := 1, ground := Ground.data }], guard := none }) (v := ?_) rfl (by kernel_rfl) (by kernel_rfl) (by kernel_rfl) (by rfl) ?_ ?_
          rotate_left
          · intro W hW; first | (go_simp; done) | (go_simp; with_reducible rfl)
          try simp only [Act.put, List.setIfInBounds_toArray, List.set_cons_zero, List.set_cons_succ]
          refine wpG_take (i := 3) (oi := { dst := some 27, op := Op.indexAddr 86 (Operand.tmp 3) (Operand.tmp 26), type := 0, pos := "keccak.go:40", after := #[{ on := 2, ground := Ground.data }], guard := none }) (v := ?_) rfl (by kernel_rfl) (by kernel_rfl) (by kernel_rfl) (by rfl) ?_ ?_
          rotate_left
          · intro W hW; first | (go_simp; done) | (go_simp; with_reducible rfl)
          try simp only [Act.put, List.setIfInBounds_toArray, List.set_cons_zero, List.set_cons_succ]
          refine wpG_take (i := 4) (oi := { dst := some 28, op := Op.load 65 (Operand.tmp 27), type := 65, pos := "keccak.go:40", after := #[{ on := 3, ground := Ground.data }], guard := none }) (v := ?_) rfl (by kernel_rfl) (by kernel_rfl) (by kernel_rfl) (by rfl) ?_ ?_
          rotate_left
          · intro W hW; have hcW := cellU c4 hW; first | (go_simp; done) | (go_simp; with_reducible rfl)
          try simp only [Act.put, List.setIfInBounds_toArray, List.set_cons_zero, List.set_cons_succ]
          refine wpG_take (i := 5) (oi := { dst := some 29, op := Op.move (Operand.tmp 5), type := 3, pos := "keccak.go:40", after := #[], guard := none }) (v := ?_) rfl (by kernel_rfl) (by kernel_rfl) (by kernel_rfl) (by rfl) ?_ ?_
          rotate_left
          · intro W hW; first | (go_simp; done) | (go_simp; with_reducible rfl)
          try simp only [Act.put, List.setIfInBounds_toArray, List.set_cons_zero, List.set_cons_succ]
          refine wpG_take (i := 6) (oi := { dst := some 30, op := Op.binOp BinOp.add 3 (Operand.tmp 29) (Operand.const (Value.int IntKind.i64 1)) 3, type := 3, pos := "keccak.go:40", after := #[{ on := 5, ground := Ground.data }], guard := none }) (v := ?_) rfl (by kernel_rfl) (by kernel_rfl) (by kernel_rfl) (by rfl) ?_ ?_
          rotate_left
          · intro W hW; first | (go_simp; done) | (go_simp; with_reducible rfl)
          try simp only [Act.put, List.setIfInBounds_toArray, List.set_cons_zero, List.set_cons_succ]
          refine wpG_take (i := 7) (oi := { dst := some 31, op := Op.binOp BinOp.rem 3 (Operand.tmp 30) (Operand.const (Value.int IntKind.i64 5)) 3, type := 3, pos := "keccak.go:40", after := #[{ on := 6, ground := Ground.data }], guard := none }) (v := ?_) rfl (by kernel_rfl) (by kernel_rfl) (by kernel_rfl) (by rfl) ?_ ?_
          rotate_left
          · intro W hW; first | (go_simp; done) | (go_simp; with_reducible rfl)
          try simp only [Act.put, List.setIfInBounds_toArray, List.set_cons_zero, List.set_cons_succ]
          refine wpG_take (i := 8) (oi := { dst := some 32, op := Op.indexAddr 86 (Operand.tmp 3) (Operand.tmp 31), type := 0, pos := "keccak.go:40", after := #[{ on := 7, ground := Ground.data }], guard := none }) (v := ?_) rfl (by kernel_rfl) (by kernel_rfl) (by kernel_rfl) (by rfl) ?_ ?_
          rotate_left
          · intro W hW; first | (go_simp; done) | (go_simp; with_reducible rfl)
          try simp only [Act.put, List.setIfInBounds_toArray, List.set_cons_zero, List.set_cons_succ]
          refine wpG_take (i := 9) (oi := { dst := some 33, op := Op.load 65 (Operand.tmp 32), type := 65, pos := "keccak.go:40", after := #[{ on := 8, ground := Ground.data }], guard := none }) (v := ?_) rfl (by kernel_rfl) (by kernel_rfl) (by kernel_rfl) (by rfl) ?_ ?_
          rotate_left
          · intro W hW; have hcW := cellU c1 hW; first | (go_simp; done) | (go_simp; with_reducible rfl)
          try simp only [Act.put, List.setIfInBounds_toArray, List.set_cons_zero, List.set_cons_succ]
          refine wpG_do (i := 10) (o := { dst := some 34, op := Op.call { callee := Callee.value (Operand.func 75), args := #[Operand.tmp 33, Operand.const (Value.int IntKind.i64 1)], argTypes := #[65, 3] }, type := 65, pos := "keccak.go:40", after := #[{ on := 9, ground := Ground.data }], guard := none }) (by kernel_rfl) rfl (by rfl) fun K hK => ?_
          go_simp
          refine (rot_any q1 1 _ _ rfl rfl h1 (by decide) _).mono ?_
          rintro e w' ⟨rfl, rfl⟩
          refine hK.out _ _ (Below.refl _ _) ?_
          clear hK K
          try simp only [Act.put, List.setIfInBounds_toArray, List.set_cons_zero, List.set_cons_succ]
          refine wpG_take (i := 11) (oi := { dst := some 35, op := Op.binOp BinOp.xor 65 (Operand.tmp 28) (Operand.tmp 34) 65, type := 65, pos := "keccak.go:40", after := #[{ on := 4, ground := Ground.data }, { on := 10, ground := Ground.data }], guard := none }) (v := ?_) rfl (by kernel_rfl) (by kernel_rfl) (by kernel_rfl) (by rfl) ?_ ?_
          rotate_left
          · intro W hW; first | (go_simp; done) | (go_simp; with_reducible rfl)
          try simp only [Act.put, List.setIfInBounds_toArray, List.set_cons_zero, List.set_cons_succ]
          refine wpG_take (i := 12) (oi := { dst := some 6, op := Op.assign (Operand.tmp 35), type := 65, pos := "keccak.go:40", after := #[{ on := 11, ground := Ground.data }, { on := 10, ground := Ground.chain }, { on := 0, ground := Ground.phase }, { on := 1, ground := Ground.phase }, { on := 2, ground := Ground.phase }, { on := 3, ground := Ground.phase }, { on := 4, ground := Ground.phase }, { on := 5, ground := Ground.phase }, { on := 6, ground := Ground.phase }, { on := 7, ground := Ground.phase }, { on := 8, ground := Ground.phase }, { on := 9, ground := Ground.phase }, { on := 10, ground := Ground.phase }, { on := 11, ground := Ground.phase }], guard := none }) (v := ?_) rfl (by kernel_rfl) (by kernel_rfl) (by kernel_rfl) (by rfl) ?_ ?_
          rotate_left
          · intro W hW; first | (go_simp; done) | (go_simp; with_reducible rfl)
          try simp only [Act.put, List.setIfInBounds_toArray, List.set_cons_zero, List.set_cons_succ]
          refine wpG_done (by kernel_rfl) ?_

          rw [HX.out]
          have hI5 := HI.out.drew
          have rs5 := HR.out.drew
          generalize q4 ^^^ turnN q1 1 = q at HTA HL
          clear HX h4 h1 c4 c1 HI HR v4 v1 t4 t1 u4 u1 b4 b1
          generalize wr.drew = wr1 at hI5 rs5
          clear wr
          go_wp2
          go_loopw [36] (fun i wr => ∃ Y : Nat, Y ≤ 5 ∧ i = .int .i64 Y ∧ KI w (thR f X Y) wr ∧ RowAt .u64 86 (w.heap.size + 2) 5 (sL f 25) wr) (fun i _ => 5 - (intOf i).toNat)
          case atStart => exact ⟨0, by omega, rfl, hI5, rs5⟩
          case round =>
            obtain ⟨Y, hY, rfl, hI6, rs6⟩ := hrel
            clear hI5 rs5
            by_cases hYlt : Y < 5
            · have hd2 : decide ((Y : Int) < 5) = true := decide_eq_true (by omega)
              have hYI : (Y : Int) < 5 := by omega
              have hc := hI6.a.cell (j := X + 5 * Y) (by rw [stL_length]; omega)
              have hcf := hI6.a.free (X + 5 * Y)
              rw [stL_get _ _ (by omega), thR_get f X Y hlt] at hc
              have HT := HTA.out Y
              have HX : Hid _ := xorI (f (X + 5 * Y)) q (HF.out _) HL.out
              rw [HT] at HX
              have HS : Hid (∀ x : Int, x = ((thL f (X + 5 * Y) : Nat) : Int) → KI w (thR f X (Y + 1)) (wr.setCell ⟨w.heap.size, X + 5 * Y, none⟩ (.int .u64 x)) ∧ RowAt .u64 86 (w.heap.size + 2) 5 (sL f 25) (wr.setCell ⟨w.heap.size, X + 5 * Y, none⟩ (.int .u64 x))) := by
                intro x hx
                refine ⟨hI6.set _ x (by rw [hx]; exact thR_set f X Y hlt hYlt), rs6.wrote (Wrote.set _ _ wr _) (by omega)⟩
              generalize f (X + 5 * Y) = q0 at hc HX
              have w5 : IntKind.i64.wrap (5 * (Y : Int)) = 5 * (Y : Int) := IntWalk.i64_in _ (by omega)
              have wX : IntKind.i64.wrap ((X : Int) + 5 * (Y : Int)) = (X : Int) + 5 * (Y : Int) := IntWalk.i64_in _ (by omega)
              have nX : ((X : Int) + 5 * (Y : Int)).toNat = X + 5 * Y := by omega
              have pX : 0 ≤ (X : Int) + 5 * (Y : Int) := by omega
              have lX : (X : Int) + 5 * (Y : Int) < 25 := by omega
              clear hI6 rs6 HT
              go_wp2
              obtain ⟨hI7, rs7⟩ := HS.out _ HX.out
              go_roundw
              case rel => exact ⟨Y + 1, by omega, by go_num, hI7, rs7⟩
              case measure => simp [intOf]; omega
            · have hYe : Y = 5 := by omega
              subst hYe
              have hI7 : KI w (thR f (X + 1) 0) wr := ⟨thR_next f X ▸ hI6.a, hI6.r, hI6.b, hI6.t, hI6.two⟩
              clear hI6
              go_wp2
              go_roundw
              case rel => exact ⟨X + 1, by omega, by go_num, hI7, rs6⟩
              case measure => simp [intOf]; omega
        · have hXe : X = 5 := by omega
          subst hXe
          have r1 := hI4.a
          rw [thR_done] at r1
          have r2 := hI4.r
          go_wp2_with (first | refine wpList_load_row rfl 66 _ rfl rfl r1 _ Tryd.underlying66 rfl (arrInfo _) ?_ | (refine wpList_store_row rfl 66 _ _ rfl (stL (thL f)) rfl rfl r2 (by simp [stL_length]) (arrInfo _) ?_; intro w2 r3 hw))
          refine bodyPost_row (p := 2) (ty := 66) rfl rfl rfl r3 Tryd.underlying66 rfl (arrInfo _) ?_
          exact ⟨rfl, hw.below _ _ (by omega) hI4.b⟩
end Go.Proofs.YtlcnepnappfjeaaDoor
