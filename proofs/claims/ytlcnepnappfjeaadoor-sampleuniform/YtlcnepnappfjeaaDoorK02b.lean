/- What Iota and Rho answer: contracts of package keccak, second part. -/
import Derived.Test.YtlcnepnappfjeaaDoorK02a
import Derived.Test.YtlcnepnappfjeaaDoorKec
import Derived.Test.YtlcnepnappfjeaaDoorBase
namespace Go.Proofs.YtlcnepnappfjeaaDoor
open Go.ChangeShapes Go.WideShapes Go.ChangeAt Go.RowKit
set_option linter.unusedSimpArgs false
set_option linter.unusedVariables false

theorem arrInfo (f : Nat → Nat) : (Tryd.prog.info? 66).map (·.size) = some (stL f).length := by rw [stL_length]; kernel_rfl
abbrev arrV (f : Nat → Nat) : Value := .agg ((stL f).map (Value.int .u64)).toArray
theorem zeros25 : #[Value.int .u64 0, .int .u64 0, .int .u64 0, .int .u64 0, .int .u64 0, .int .u64 0, .int .u64 0, .int .u64 0, .int .u64 0, .int .u64 0, .int .u64 0, .int .u64 0, .int .u64 0, .int .u64 0, .int .u64 0, .int .u64 0, .int .u64 0, .int .u64 0, .int .u64 0, .int .u64 0, .int .u64 0, .int .u64 0, .int .u64 0, .int .u64 0, .int .u64 0] = ((stL fun _ => 0).map (Value.int .u64)).toArray := by
  rw [← stL_zero]
  rfl
/-- A function on its way: its argument's block and its result's, the tables, and all that was there before. -/
structure KI (w : World) (F : Nat → Nat) (wr : World) : Prop where
  a : RowAt .u64 66 w.heap.size 25 (stL F) wr
  r : RowAt .u64 66 (w.heap.size + 1) 25 (stL fun _ => 0) wr
  b : Below w.heap.size w wr
  t : Tabs wr
  two : 1 < w.heap.size
theorem KI.drew {w wr : World} {F : Nat → Nat} (h : KI w F wr) : KI w F wr.drew := ⟨h.a.drew, h.r.drew, h.b.drew, h.t.kept (Below.refl _ _).drew, h.two⟩
theorem KI.kept {w wr w2 : World} {F : Nat → Nat} (h : KI w F wr) (hb : Below wr.heap.size wr w2) : KI w F w2 := ⟨h.a.kept hb, h.r.kept hb, stepB h.b hb, h.t.kept hb, h.two⟩
theorem KI.set {w wr : World} {F G : Nat → Nat} (h : KI w F wr) (j : Nat) (x : Int) (e : (stL F).set j x = stL G) : KI w G (wr.setCell ⟨w.heap.size, j, none⟩ (.int .u64 x)) := by
  have hw := Wrote.set w.heap.size j wr (.int .u64 x)
  have h1 := h.a.set j x
  rw [e] at h1
  exact ⟨h1, h.r.wrote hw (by omega), hw.below _ _ (Nat.le_refl _) h.b, h.t.wrote hw h.two, h.two⟩
theorem KI.alloc {w wr : World} {F : Nat → Nat} (h : KI w F wr) (o : Obj) : KI w F (wr.alloc o) := h.kept (growB o)
/-- Another block of the function's own is written. -/
theorem KI.other {w wr w2 : World} {F : Nat → Nat} {g : Nat} (h : KI w F wr) (hw : Wrote g wr w2) (hg : w.heap.size + 2 ≤ g) : KI w F w2 :=
  ⟨h.a.wrote hw (by omega), h.r.wrote hw (by omega), hw.below _ _ (by omega) h.b, h.t.wrote hw (by have := h.two; omega), h.two⟩
/-- The argument's block is written as a whole. -/
theorem KI.whole {w wr w2 : World} {F G : Nat → Nat} (h : KI w F wr) (hr : RowAt .u64 66 w.heap.size 25 (stL G) w2) (hw : Wrote w.heap.size wr w2) : KI w G w2 :=
  ⟨hr, h.r.wrote hw (by omega), hw.below _ _ (Nat.le_refl _) h.b, h.t.wrote hw h.two, h.two⟩
/-- The world behind a function's set-up. -/
theorem two_rows (f : Nat → Nat) (w : World) (cs : Array Value) (hcs : cs = ((stL fun _ => 0).map (Value.int .u64)).toArray) (t : Tabs w) :
    ∃ W, (w.alloc (.cells ((stL f).map (Value.int .u64)).toArray 66)).alloc (.cells cs 66) = W ∧ KI w f W ∧ W.heap.size = w.heap.size + 2 := by
  have r1 : RowAt .u64 66 w.heap.size 25 (stL f) (w.alloc (.cells ((stL f).map (Value.int .u64)).toArray 66)) := RowAt.fresh (stL f) rfl rfl (stL_length f).symm (stL_ne f) (by rw [stL_length]; simp [maxLen])
  have r2 : RowAt .u64 66 (w.heap.size + 1) 25 (stL fun _ => 0) ((w.alloc (.cells ((stL f).map (Value.int .u64)).toArray 66)).alloc (.cells cs 66)) := RowAt.fresh (stL fun _ => 0) hcs (by simp) (stL_length _).symm (stL_ne _) (by rw [stL_length]; simp [maxLen])
  have hb := stepB (growB (w := w) (.cells ((stL f).map (Value.int .u64)).toArray 66)) (growB (.cells cs 66))
  exact ⟨_, rfl, ⟨r1.kept (growB _), r2, hb, t.kept hb, t.two⟩, by simp⟩

set_option maxHeartbeats 400000 in
theorem kIota_out (A : Array Value) (f : Nat → Nat) (hA : A = ((stL f).map (Value.int .u64)).toArray) (r : Int) (hr : decide (0 ≤ r ∧ r ≤ 23) = false) (w : World) (ht : Tabs w) :
    Calls Tryd.prog 70 #[.agg A, .int .i64 r] w fun e w' => e = .returned (arrV f) ∧ Below w.heap.size w w' := by
  have HA : Hid _ := hA
  clear hA
  go_enter Tryd.func70, Tryd.ntmps70
  go_wp2_with fail
  rw [HA.out]
  obtain ⟨W, hW, hI, hs⟩ := two_rows f w _ zeros25 ht
  rw [hW]
  clear hW ht
  refine (isRound_any _ _).mono ?_
  rintro e w1 ⟨rfl, rfl⟩
  rw [hr]
  have r1 := hI.a
  have r2 := hI.r
  go_wp2_with (first | refine wpList_load_row rfl 66 _ rfl rfl r1 _ Tryd.underlying66 rfl (arrInfo _) ?_ | (refine wpList_store_row rfl 66 _ _ rfl (stL f) rfl rfl r2 (by simp [stL_length]) (arrInfo _) ?_; intro w2 r3 hw))
  refine bodyPost_row (p := 4) (ty := 66) rfl rfl rfl r3 Tryd.underlying66 rfl (arrInfo _) ?_
  exact ⟨rfl, hw.below _ _ (by omega) hI.b⟩

set_option maxHeartbeats 400000 in
theorem kIota_in (A : Array Value) (f : Nat → Nat) (hf : ∀ i, f i < 18446744073709551616) (hA : A = ((stL f).map (Value.int .u64)).toArray) (n : Nat) (hlt : n < 24) (w : World) (ht : Tabs w) :
    Calls Tryd.prog 70 #[.agg A, .int .i64 (n : Int)] w fun e w' => e = .returned (arrV (ioK f n)) ∧ Below w.heap.size w w' := by
  have hr : decide (0 ≤ (n : Int) ∧ (n : Int) ≤ 23) = true := decide_eq_true (by omega)
  have HA : Hid _ := hA
  clear hA
  go_enter Tryd.func70, Tryd.ntmps70
  go_wp2_with fail
  rw [HA.out]
  obtain ⟨W, hW, hI, hs⟩ := two_rows f w _ zeros25 ht
  rw [hW]
  clear hW ht
  refine (isRound_any _ _).mono ?_
  rintro e w1 ⟨rfl, rfl⟩
  rw [hr]
  clear hr
  have hlt2 : ((n : Nat) : Int) < 24 := by omega
  have hc := hI.a.cell (j := 0) (by rw [stL_length]; decide)
  have hcf := hI.a.free 0
  have hk := hI.t.consts n hlt
  rw [stL_get f 0 (by decide)] at hc
  rw [ksT_get n hlt] at hk
  have HS : Hid (∀ x : Int, x = ((f 0 ^^^ kst.getD n 0 : Nat) : Int) → KI w (ioK f n) (w1.setCell ⟨w.heap.size, 0, none⟩ (.int .u64 x))) := by
    intro x hx
    exact hI.set 0 x (by rw [hx]; exact ioKI f n)
  have HX : Hid _ := xorI (f 0) (kst.getD n 0) (hf 0) (kst_lt n hlt)
  generalize f 0 = q0 at hc HX HS
  generalize kst.getD n 0 = q1 at hk HX HS
  have HI : Hid _ := hI
  clear hI hf
  go_wp2_with fail
  refine wpE_begin 7 (by kernel_rfl) ?_
  refine wpE_take (i := 0) (oi := { dst := some 7, op := Op.indexAddr 66 (Operand.tmp 2) (Operand.const (Value.int IntKind.i64 0)), type := 0, pos := "keccak.go:82", after := #[], guard := none }) (v := ?_) rfl (by decide) (by kernel_rfl) (by kernel_rfl) (by kernel_rfl) (by kernel_rfl) (by rfl) ?_ ?_
  rotate_left
  · intro W hW; first | (go_simp; done) | (go_simp; with_reducible rfl)
  try simp only [Act.put, List.setIfInBounds_toArray, List.set_cons_zero, List.set_cons_succ]
  refine wpE_take (i := 1) (oi := { dst := some 8, op := Op.load 65 (Operand.tmp 7), type := 65, pos := "keccak.go:82", after := #[{ on := 0, ground := Ground.data }], guard := none }) (v := ?_) rfl (by decide) (by kernel_rfl) (by kernel_rfl) (by kernel_rfl) (by kernel_rfl) (by rfl) ?_ ?_
  rotate_left
  · intro W hW; have hcW := cellU hc hW; first | (go_simp; done) | (go_simp; with_reducible rfl)
  try simp only [Act.put, List.setIfInBounds_toArray, List.set_cons_zero, List.set_cons_succ]
  refine wpE_take (i := 2) (oi := { dst := some 9, op := Op.move (Operand.tmp 1), type := 3, pos := "keccak.go:82", after := #[], guard := none }) (v := ?_) rfl (by decide) (by kernel_rfl) (by kernel_rfl) (by kernel_rfl) (by kernel_rfl) (by rfl) ?_ ?_
  rotate_left
  · intro W hW; first | (go_simp; done) | (go_simp; with_reducible rfl)
  try simp only [Act.put, List.setIfInBounds_toArray, List.set_cons_zero, List.set_cons_succ]
  refine wpE_take (i := 3) (oi := { dst := some 10, op := Op.indexAddr 84 (Operand.global 0) (Operand.tmp 9), type := 0, pos := "keccak.go:82", after := #[{ on := 2, ground := Ground.data }], guard := none }) (v := ?_) rfl (by decide) (by kernel_rfl) (by kernel_rfl) (by kernel_rfl) (by kernel_rfl) (by rfl) ?_ ?_
  rotate_left
  · intro W hW; first | (go_simp; done) | (go_simp; with_reducible rfl)
  try simp only [Act.put, List.setIfInBounds_toArray, List.set_cons_zero, List.set_cons_succ]
  refine wpE_take (i := 4) (oi := { dst := some 11, op := Op.load 65 (Operand.tmp 10), type := 65, pos := "keccak.go:82", after := #[{ on := 3, ground := Ground.data }], guard := none }) (v := ?_) rfl (by decide) (by kernel_rfl) (by kernel_rfl) (by kernel_rfl) (by kernel_rfl) (by rfl) ?_ ?_
  rotate_left
  · intro W hW; have hcW := cellU hk hW; first | (go_simp; done) | (go_simp; with_reducible rfl)
  try simp only [Act.put, List.setIfInBounds_toArray, List.set_cons_zero, List.set_cons_succ]
  refine wpE_take (i := 5) (oi := { dst := some 12, op := Op.binOp BinOp.xor 65 (Operand.tmp 8) (Operand.tmp 11) 65, type := 65, pos := "keccak.go:82", after := #[{ on := 1, ground := Ground.data }, { on := 4, ground := Ground.data }], guard := none }) (v := ?_) rfl (by decide) (by kernel_rfl) (by kernel_rfl) (by kernel_rfl) (by kernel_rfl) (by rfl) ?_ ?_
  rotate_left
  · intro W hW; first | (go_simp; done) | (go_simp; with_reducible rfl)
  try simp only [Act.put, List.setIfInBounds_toArray, List.set_cons_zero, List.set_cons_succ]
  refine wpE_take (i := 6) (oi := { dst := some 13, op := Op.indexAddr 66 (Operand.tmp 2) (Operand.const (Value.int IntKind.i64 0)), type := 0, pos := "keccak.go:82", after := #[{ on := 0, ground := Ground.phase }, { on := 1, ground := Ground.phase }, { on := 2, ground := Ground.phase }, { on := 3, ground := Ground.phase }, { on := 4, ground := Ground.phase }, { on := 5, ground := Ground.phase }], guard := none }) (v := ?_) rfl (by decide) (by kernel_rfl) (by kernel_rfl) (by kernel_rfl) (by kernel_rfl) (by rfl) ?_ ?_
  rotate_left
  · intro W hW; first | (go_simp; done) | (go_simp; with_reducible rfl)
  try simp only [Act.put, List.setIfInBounds_toArray, List.set_cons_zero, List.set_cons_succ]
  refine wpE_last (o := { dst := none, op := Op.store 65 (Operand.tmp 13) (Operand.tmp 12), type := 0, pos := "keccak.go:82", after := #[{ on := 6, ground := Ground.data }, { on := 5, ground := Ground.data }, { on := 0, ground := Ground.phase }, { on := 1, ground := Ground.phase }, { on := 2, ground := Ground.phase }, { on := 3, ground := Ground.phase }, { on := 4, ground := Ground.phase }, { on := 5, ground := Ground.phase }], guard := none }) (by kernel_rfl) (by kernel_rfl) rfl (by rfl) fun K hK => ?_
  go_simp
  refine hK.out _ _ ?_
  clear hK K
  try simp only [Act.put, List.setIfInBounds_toArray, List.set_cons_zero, List.set_cons_succ]

  have hI2 := HS.out _ HX.out
  have r1 := hI2.drew.a
  have r2 := hI2.drew.r
  go_wp2_with (first | refine wpList_load_row rfl 66 _ rfl rfl r1 _ Tryd.underlying66 rfl (arrInfo _) ?_ | (refine wpList_store_row rfl 66 _ _ rfl (stL (ioK f n)) rfl rfl r2 (by simp [stL_length]) (arrInfo _) ?_; intro w2 r3 hw))
  refine bodyPost_row (p := 4) (ty := 66) rfl rfl rfl r3 Tryd.underlying66 rfl (arrInfo _) ?_
  exact ⟨rfl, hw.below _ _ (by omega) hI2.drew.b⟩

/-- Iota, of any round's number. -/
def ioI (f : Nat → Nat) (r : Int) : Nat → Nat := if 0 ≤ r ∧ r ≤ 23 then ioK f r.toNat else f
theorem kIota_any (A : Array Value) (f : Nat → Nat) (hf : ∀ i, f i < 18446744073709551616) (hA : A = ((stL f).map (Value.int .u64)).toArray) (r : Int) (w : World) (ht : Tabs w) :
    Calls Tryd.prog 70 #[.agg A, .int .i64 r] w fun e w' => e = .returned (arrV (ioI f r)) ∧ Below w.heap.size w w' := by
  by_cases h : 0 ≤ r ∧ r ≤ 23
  · obtain ⟨n, rfl⟩ : ∃ n : Nat, r = n := ⟨r.toNat, by omega⟩
    have e : ioI f (n : Int) = ioK f n := by unfold ioI; rw [if_pos h, Int.toNat_natCast]
    rw [e]
    exact kIota_in A f hf hA n (by omega) w ht
  · have e : ioI f r = f := by unfold ioI; rw [if_neg h]
    rw [e]
    exact kIota_out A f hA r (decide_eq_false h) w ht
theorem ioI_lt (f : Nat → Nat) (hf : ∀ i, f i < 18446744073709551616) (r : Int) (k : Nat) : ioI f r k < 18446744073709551616 := by
  unfold ioI
  split
  · unfold ioK
    split
    · exact xor_lt64 (hf 0) (kst_lt _ (by omega))
    · exact hf k
  · exact hf k

def rhM (j : Nat) : Nat := if j = 0 then 0 else rhBy (rhTau j)
theorem rhM_lt (j : Nat) : rhM j < 64 := by
  unfold rhM
  split
  · decide
  · exact rhBy_lt _
theorem rhM_turn (f : Nat → Nat) (j : Nat) : turnN (f j) (rhM j) = rhL f j := by
  unfold rhM rhL
  by_cases h : j = 0
  · subst h; rfl
  · rw [if_neg h, if_neg h]

set_option maxHeartbeats 1000000 in
theorem kRho_any (A : Array Value) (f : Nat → Nat) (hf : ∀ i, f i < 18446744073709551616) (hA : A = ((stL f).map (Value.int .u64)).toArray) (w : World) (ht : Tabs w) :
    Calls Tryd.prog 73 #[.agg A] w fun e w' => e = .returned (arrV (rhL f)) ∧ Below w.heap.size w w' := by
  have HA : Hid _ := hA
  have HF : Hid (∀ i, f i < 18446744073709551616) := hf
  clear hA hf
  go_enter Tryd.func73, Tryd.ntmps73
  go_wp2
  rw [HA.out]
  obtain ⟨W, hW, hI, hs⟩ := two_rows f w _ zeros25 ht
  rw [hW]
  clear hW ht
  go_loopw [4] (fun i wr => ∃ j : Nat, j ≤ 25 ∧ i = .int .i64 j ∧ KI w (upQ f (rhL f) j) wr) (fun i _ => 25 - (intOf i).toNat)
  case atStart => exact ⟨0, by omega, rfl, by have e := upQ_zero f (rhL f); exact ⟨e ▸ hI.a, hI.r, hI.b, hI.t, hI.two⟩⟩
  case round =>
    obtain ⟨j, hj, rfl, hI2⟩ := hrel
    clear hI hs
    by_cases hlt : j < 25
    · have hd : decide ((j : Int) < 25) = true := decide_eq_true (by omega)
      have hjI : (j : Int) < 25 := by omega
      have hc := hI2.a.cell (j := j) (by rw [stL_length]; exact hlt)
      have hcf := hI2.a.free j
      have hk := hI2.t.turns j hlt
      rw [stL_get _ j hlt, upQ_get] at hc
      rw [trT_eq j hlt] at hk
      have HT : Hid _ := rhM_turn f j
      have hm := rhM_lt j
      have hq := HF.out j
      have HS : Hid (∀ x : Int, x = ((rhL f j : Nat) : Int) → KI w (upQ f (rhL f) (j + 1)) (wr.setCell ⟨w.heap.size, j, none⟩ (.int .u64 x))) := by
        intro x hx
        exact hI2.set j x (by rw [hx]; exact upQ_set f (rhL f) j)
      change wr.cell? ⟨1, j, none⟩ = some (.int .i64 ((rhM j : Nat) : Int)) at hk
      generalize f j = q0 at hc HT hq
      generalize rhM j = q1 at hk HT hm
      have HI : Hid _ := hI2
      clear hI2
      go_wp2_with fail
      refine wpE_begin 9 (by kernel_rfl) ?_
      refine wpE_take (i := 0) (oi := { dst := some 7, op := Op.move (Operand.tmp 3), type := 3, pos := "keccak.go:51", after := #[], guard := none }) (v := ?_) rfl (by decide) (by kernel_rfl) (by kernel_rfl) (by kernel_rfl) (by kernel_rfl) (by rfl) ?_ ?_
      rotate_left
      · intro W hW; first | (go_simp; done) | (go_simp; with_reducible rfl)
      try simp only [Act.put, List.setIfInBounds_toArray, List.set_cons_zero, List.set_cons_succ]
      refine wpE_take (i := 1) (oi := { dst := some 8, op := Op.move (Operand.tmp 3), type := 3, pos := "keccak.go:51", after := #[], guard := none }) (v := ?_) rfl (by decide) (by kernel_rfl) (by kernel_rfl) (by kernel_rfl) (by kernel_rfl) (by rfl) ?_ ?_
      rotate_left
      · intro W hW; first | (go_simp; done) | (go_simp; with_reducible rfl)
      try simp only [Act.put, List.setIfInBounds_toArray, List.set_cons_zero, List.set_cons_succ]
      refine wpE_take (i := 2) (oi := { dst := some 9, op := Op.indexAddr 66 (Operand.tmp 1) (Operand.tmp 8), type := 0, pos := "keccak.go:51", after := #[{ on := 1, ground := Ground.data }], guard := none }) (v := ?_) rfl (by decide) (by kernel_rfl) (by kernel_rfl) (by kernel_rfl) (by kernel_rfl) (by rfl) ?_ ?_
      rotate_left
      · intro W hW; first | (go_simp; done) | (go_simp; with_reducible rfl)
      try simp only [Act.put, List.setIfInBounds_toArray, List.set_cons_zero, List.set_cons_succ]
      refine wpE_take (i := 3) (oi := { dst := some 10, op := Op.load 65 (Operand.tmp 9), type := 65, pos := "keccak.go:51", after := #[{ on := 2, ground := Ground.data }], guard := none }) (v := ?_) rfl (by decide) (by kernel_rfl) (by kernel_rfl) (by kernel_rfl) (by kernel_rfl) (by rfl) ?_ ?_
      rotate_left
      · intro W hW; have hcW := cellU hc hW; first | (go_simp; done) | (go_simp; with_reducible rfl)
      try simp only [Act.put, List.setIfInBounds_toArray, List.set_cons_zero, List.set_cons_succ]
      refine wpE_take (i := 4) (oi := { dst := some 11, op := Op.move (Operand.tmp 3), type := 3, pos := "keccak.go:51", after := #[], guard := none }) (v := ?_) rfl (by decide) (by kernel_rfl) (by kernel_rfl) (by kernel_rfl) (by kernel_rfl) (by rfl) ?_ ?_
      rotate_left
      · intro W hW; first | (go_simp; done) | (go_simp; with_reducible rfl)
      try simp only [Act.put, List.setIfInBounds_toArray, List.set_cons_zero, List.set_cons_succ]
      refine wpE_take (i := 5) (oi := { dst := some 12, op := Op.indexAddr 85 (Operand.global 1) (Operand.tmp 11), type := 0, pos := "keccak.go:51", after := #[{ on := 4, ground := Ground.data }], guard := none }) (v := ?_) rfl (by decide) (by kernel_rfl) (by kernel_rfl) (by kernel_rfl) (by kernel_rfl) (by rfl) ?_ ?_
      rotate_left
      · intro W hW; first | (go_simp; done) | (go_simp; with_reducible rfl)
      try simp only [Act.put, List.setIfInBounds_toArray, List.set_cons_zero, List.set_cons_succ]
      refine wpE_take (i := 6) (oi := { dst := some 13, op := Op.load 3 (Operand.tmp 12), type := 3, pos := "keccak.go:51", after := #[{ on := 5, ground := Ground.data }], guard := none }) (v := ?_) rfl (by decide) (by kernel_rfl) (by kernel_rfl) (by kernel_rfl) (by kernel_rfl) (by rfl) ?_ ?_
      rotate_left
      · intro W hW; have hcW := cellU hk hW; first | (go_simp; done) | (go_simp; with_reducible rfl)
      try simp only [Act.put, List.setIfInBounds_toArray, List.set_cons_zero, List.set_cons_succ]
      refine wpE_do (i := 7) (o := { dst := some 14, op := Op.call { callee := Callee.value (Operand.func 75), args := #[Operand.tmp 10, Operand.tmp 13], argTypes := #[65, 3] }, type := 65, pos := "keccak.go:51", after := #[{ on := 3, ground := Ground.data }, { on := 6, ground := Ground.data }], guard := none }) (by kernel_rfl) rfl (by rfl) fun K hK => ?_
      go_simp
      refine (rot_any q0 q1 _ _ rfl rfl hq hm _).mono ?_
      rintro e w' ⟨rfl, rfl⟩
      refine hK.out _ _ (Below.refl _ _) ?_
      clear hK K
      try simp only [Act.put, List.setIfInBounds_toArray, List.set_cons_zero, List.set_cons_succ]
      refine wpE_take (i := 8) (oi := { dst := some 15, op := Op.indexAddr 66 (Operand.tmp 1) (Operand.tmp 7), type := 0, pos := "keccak.go:51", after := #[{ on := 0, ground := Ground.data }, { on := 0, ground := Ground.phase }, { on := 1, ground := Ground.phase }, { on := 2, ground := Ground.phase }, { on := 3, ground := Ground.phase }, { on := 4, ground := Ground.phase }, { on := 5, ground := Ground.phase }, { on := 6, ground := Ground.phase }, { on := 7, ground := Ground.phase }], guard := none }) (v := ?_) rfl (by decide) (by kernel_rfl) (by kernel_rfl) (by kernel_rfl) (by kernel_rfl) (by rfl) ?_ ?_
      rotate_left
      · intro W hW; first | (go_simp; done) | (go_simp; with_reducible rfl)
      try simp only [Act.put, List.setIfInBounds_toArray, List.set_cons_zero, List.set_cons_succ]
      refine wpE_last (o := { dst := none, op := Op.store 65 (Operand.tmp 15) (Operand.tmp 14), type := 0, pos := "keccak.go:51", after := #[{ on := 8, ground := Ground.data }, { on := 7, ground := Ground.data }, { on := 7, ground := Ground.chain }, { on := 0, ground := Ground.phase }, { on := 1, ground := Ground.phase }, { on := 2, ground := Ground.phase }, { on := 3, ground := Ground.phase }, { on := 4, ground := Ground.phase }, { on := 5, ground := Ground.phase }, { on := 6, ground := Ground.phase }, { on := 7, ground := Ground.phase }], guard := none }) (by kernel_rfl) (by kernel_rfl) rfl (by rfl) fun K hK => ?_
      go_simp
      refine hK.out _ _ ?_
      clear hK K
      try simp only [Act.put, List.setIfInBounds_toArray, List.set_cons_zero, List.set_cons_succ]

      rw [HT.out]
      have hI3 := (HS.out _ rfl).drew
      go_wp2
      go_roundw
      case rel => exact ⟨j + 1, by omega, by go_num, hI3⟩
      case measure => simp [intOf]; omega
    · have hje : j = 25 := by omega
      subst hje
      have r1 := hI2.a
      rw [upQ_done] at r1
      have r2 := hI2.r
      go_wp2_with (first | refine wpList_load_row rfl 66 _ rfl rfl r1 _ Tryd.underlying66 rfl (arrInfo _) ?_ | (refine wpList_store_row rfl 66 _ _ rfl (stL (rhL f)) rfl rfl r2 (by simp [stL_length]) (arrInfo _) ?_; intro w2 r3 hw))
      refine bodyPost_row (p := 2) (ty := 66) rfl rfl rfl r3 Tryd.underlying66 rfl (arrInfo _) ?_
      exact ⟨rfl, hw.below _ _ (by omega) hI2.b⟩
end Go.Proofs.YtlcnepnappfjeaaDoor
