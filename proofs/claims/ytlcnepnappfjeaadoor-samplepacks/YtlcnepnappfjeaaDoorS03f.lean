/- What a thing that gives bytes without end gives next, and gives when so many are asked for. -/
import Derived.Test.YtlcnepnappfjeaaDoorS03e
namespace Go.Proofs.YtlcnepnappfjeaaDoor
open Go.ChangeShapes Go.WideShapes Go.ChangeAt Go.RowKit
set_option linter.unusedSimpArgs false
set_option linter.unusedVariables false

theorem Tabs.chg {S : Nat → Prop} {w w' : World} (h : Tabs w) (c : Chg S w w') (hS : ∀ k, k ≤ 1 → ¬ S k) : Tabs w' := by
  have k2 := h.two
  exact ⟨fun i hi => by rw [World.cell?_of_block (w := w) (a := ⟨1, i, none⟩) (c.block _ (by show 1 < _; omega) (hS _ (by show 1 ≤ _; omega)))]; exact h.turns i hi,
   fun i hi => by rw [World.cell?_of_block (w := w) (a := ⟨0, i, none⟩) (c.block _ (by show 0 < _; omega) (hS _ (by show 0 ≤ _; omega)))]; exact h.consts i hi⟩
theorem xofC_rate (f : Nat → Nat) (r c : Nat) : (xofC f r c)[25]? = some (.int .i64 (r : Int)) := by
  unfold xofC
  rw [List.getElem?_append_right (by rw [List.length_map, stL_length]; omega), List.length_map, stL_length]
  rfl
theorem xofC_given (f : Nat → Nat) (r c : Nat) : (xofC f r c)[26]? = some (.int .i64 (c : Int)) := by
  unfold xofC
  rw [List.getElem?_append_right (by rw [List.length_map, stL_length]; omega), List.length_map, stL_length]
  rfl
theorem xofC_set (f : Nat → Nat) (r c d : Nat) (D : Int) (hD : D = (d : Int)) : (xofC f r c).set 26 (.int .i64 D) = xofC f r d := by
  subst hD
  unfold xofC
  rw [List.set_append_right _ _ (by rw [List.length_map, stL_length]; omega), List.length_map, stL_length]
  rfl
theorem smF_at (f : Nat → Nat) (r t c : Nat) (hc : c < r) : smF f r (t * r + c) = byF (itF f t) c := by
  unfold smF
  rw [Nat.mul_comm, Nat.mul_add_div (by omega), Nat.mul_add_mod, Nat.div_eq_of_lt hc, Nat.mod_eq_of_lt hc, Nat.add_zero]

set_option maxRecDepth 100000 in
set_option maxHeartbeats 1000000 in
theorem next_any (g : Nat) (f : Nat → Nat) (hf : ∀ i, f i < 18446744073709551616) (r p : Nat) (h1 : 1 ≤ r) (h2 : r ≤ 200) (w : World) (hX : XP g f r p w) (hg : 1 < g) (ht : Tabs w) :
    Calls Tryd.prog 49 #[.pointer (some ⟨g, 0, none⟩)] w fun e w' => e = .returned (.int .u8 ((smF f r p).toNat : Int)) ∧ XP g f r (p + 1) w' ∧ Chg (fun b => b = g) w w' ∧ Tabs w' := by
  have HF : Hid (∀ i, f i < 18446744073709551616) := hf
  clear hf
  obtain ⟨t, c, hc, hp, hB⟩ := hX
  have c25 : w.cell? ⟨g, 25, none⟩ = some (.int .i64 (r : Int)) := by rw [hB.cell, xofC_rate]
  have c26 : w.cell? ⟨g, 26, none⟩ = some (.int .i64 (c : Int)) := by rw [hB.cell, xofC_given]
  have f26 := hB.free 26
  by_cases hcr : c = r
  · subst hcr
    have HP : Hid (smF f c p = byF (itF f (t + 1)) 0) := by
      have := smF_at f c (t + 1) 0 (by omega)
      rw [Nat.add_zero, Nat.add_mul, Nat.one_mul, ← hp] at this
      exact this
    have HP2 : Hid (p + 1 = (t + 1) * c + 1) := by
      show p + 1 = _
      rw [hp, Nat.add_mul, Nat.one_mul]
    clear hp
    have hB0 : BlkAt g 68 ([] ++ (stL (itF f t)).map (Value.int .u64) ++ [.int .i64 (c : Int), .int .i64 (c : Int)]) w := hB
    go_enter Tryd.func49, Tryd.ntmps49
    go_wp2_with fail
    refine wpG_begin (by kernel_rfl) ?_
    refine wpG_take (i := 0) (oi := { dst := some 3, op := Op.move (Operand.tmp 0), type := 50, pos := "sponge.go:120", after := #[], guard := none }) (v := ?_) rfl (by kernel_rfl) (by kernel_rfl) (by kernel_rfl) (by rfl) ?_ ?_
    rotate_left
    · intro W hW; first | (go_simp; done) | (go_simp; with_reducible rfl)
    try simp only [Act.put, List.setIfInBounds_toArray, List.set_cons_zero, List.set_cons_succ]
    refine wpG_take (i := 1) (oi := { dst := some 4, op := Op.nilCheck (Operand.tmp 3), type := 0, pos := "sponge.go:120", after := #[{ on := 0, ground := Ground.data }], guard := none }) (v := ?_) rfl (by kernel_rfl) (by kernel_rfl) (by kernel_rfl) (by rfl) ?_ ?_
    rotate_left
    · intro W hW; first | (go_simp; done) | (go_simp; with_reducible rfl)
    try simp only [Act.put, List.setIfInBounds_toArray, List.set_cons_zero, List.set_cons_succ]
    refine wpG_take (i := 2) (oi := { dst := some 5, op := Op.fieldAddr 68 (Operand.tmp 4) 2, type := 0, pos := "sponge.go:120", after := #[{ on := 1, ground := Ground.data }], guard := none }) (v := ?_) rfl (by kernel_rfl) (by kernel_rfl) (by kernel_rfl) (by rfl) ?_ ?_
    rotate_left
    · intro W hW; first | (go_simp; done) | (go_simp; with_reducible rfl)
    try simp only [Act.put, List.setIfInBounds_toArray, List.set_cons_zero, List.set_cons_succ]
    refine wpG_take (i := 3) (oi := { dst := some 6, op := Op.load 3 (Operand.tmp 5), type := 3, pos := "sponge.go:120", after := #[{ on := 2, ground := Ground.data }], guard := none }) (v := ?_) rfl (by kernel_rfl) (by kernel_rfl) (by kernel_rfl) (by rfl) ?_ ?_
    rotate_left
    · intro W hW; have hcW := cellU c26 hW; first | (go_simp; done) | (go_simp; with_reducible rfl)
    try simp only [Act.put, List.setIfInBounds_toArray, List.set_cons_zero, List.set_cons_succ]
    refine wpG_take (i := 4) (oi := { dst := some 7, op := Op.move (Operand.tmp 0), type := 50, pos := "sponge.go:120", after := #[], guard := none }) (v := ?_) rfl (by kernel_rfl) (by kernel_rfl) (by kernel_rfl) (by rfl) ?_ ?_
    rotate_left
    · intro W hW; first | (go_simp; done) | (go_simp; with_reducible rfl)
    try simp only [Act.put, List.setIfInBounds_toArray, List.set_cons_zero, List.set_cons_succ]
    refine wpG_take (i := 5) (oi := { dst := some 8, op := Op.nilCheck (Operand.tmp 7), type := 0, pos := "sponge.go:120", after := #[{ on := 4, ground := Ground.data }], guard := none }) (v := ?_) rfl (by kernel_rfl) (by kernel_rfl) (by kernel_rfl) (by rfl) ?_ ?_
    rotate_left
    · intro W hW; first | (go_simp; done) | (go_simp; with_reducible rfl)
    try simp only [Act.put, List.setIfInBounds_toArray, List.set_cons_zero, List.set_cons_succ]
    refine wpG_take (i := 6) (oi := { dst := some 9, op := Op.fieldAddr 68 (Operand.tmp 8) 1, type := 0, pos := "sponge.go:120", after := #[{ on := 5, ground := Ground.data }], guard := none }) (v := ?_) rfl (by kernel_rfl) (by kernel_rfl) (by kernel_rfl) (by rfl) ?_ ?_
    rotate_left
    · intro W hW; first | (go_simp; done) | (go_simp; with_reducible rfl)
    try simp only [Act.put, List.setIfInBounds_toArray, List.set_cons_zero, List.set_cons_succ]
    refine wpG_take (i := 7) (oi := { dst := some 10, op := Op.load 3 (Operand.tmp 9), type := 3, pos := "sponge.go:120", after := #[{ on := 6, ground := Ground.data }], guard := none }) (v := ?_) rfl (by kernel_rfl) (by kernel_rfl) (by kernel_rfl) (by rfl) ?_ ?_
    rotate_left
    · intro W hW; have hcW := cellU c25 hW; first | (go_simp; done) | (go_simp; with_reducible rfl)
    try simp only [Act.put, List.setIfInBounds_toArray, List.set_cons_zero, List.set_cons_succ]
    refine wpG_take (i := 8) (oi := { dst := some 11, op := Op.binOp BinOp.eql 3 (Operand.tmp 6) (Operand.tmp 10) 3, type := 4, pos := "sponge.go:120", after := #[{ on := 3, ground := Ground.data }, { on := 7, ground := Ground.data }], guard := none }) (v := ?_) rfl (by kernel_rfl) (by kernel_rfl) (by kernel_rfl) (by rfl) ?_ ?_
    rotate_left
    · intro W hW; first | (go_simp; done) | (go_simp; with_reducible rfl)
    try simp only [Act.put, List.setIfInBounds_toArray, List.set_cons_zero, List.set_cons_succ]
    refine wpG_done (by kernel_rfl) ?_
    have hBd := hB0.drew
    have htd := ht.kept (Below.refl _ _).drew
    have f26d : w.drew.frozen? ⟨g, 26, none⟩ = false := f26
    have c26d : w.drew.cell? ⟨g, 26, none⟩ = some (.int .i64 (c : Int)) := c26
    go_wp2_with (refine wpList_load_blk rfl 66 _ rfl (g := g) (o := 0) (by go_simp; done) hBd rfl Tryd.underlying66 rfl (by rw [List.length_map]; exact arrInfo _) ?_)
    refine (kF_any _ (itF f t) (itF_lt f HF.out t) rfl _ htd).mono ?_
    rintro e w2 ⟨rfl, hB2⟩
    rw [arrV_F _ (itF_lt f HF.out t)]
    have hBd2 := hBd.kept hB2
    have ht2 := htd.kept hB2
    have hch2 : Chg (fun b => b = g) w w2 := (Chg.refl _ w).drew.trans (.of_below hB2)
    clear hB0 hBd htd f26d c26d c25 c26 f26 hB ht hB2
    go_wp2_with (refine wpList_store_blk rfl 66 _ _ rfl (g := g) (o := 0) (by go_simp; done) ((stL (itF f (t + 1))).map (Value.int .u64)) rfl hBd2 rfl (by rw [List.length_map, List.length_map, stL_length, stL_length]) (by rw [List.length_map]; exact arrInfo _) (ints_one _ _) ?_)
    intro w3 hB3 hw3
    have hBx : BlkAt g 68 (xofC (itF f (t + 1)) c c) w3 := hB3
    have d25 : w3.cell? ⟨g, 25, none⟩ = some (.int .i64 (c : Int)) := by rw [hBx.cell, xofC_rate]
    have d26 : w3.cell? ⟨g, 26, none⟩ = some (.int .i64 (c : Int)) := by rw [hBx.cell, xofC_given]
    have e26 := hBx.free 26
    have hch3 := hch2.trans (Chg.of_wrote hw3)
    have ht3 := ht2.chg (Chg.of_wrote hw3) (fun k hk h => by omega)
    have hB4 := hBx.set 26 (.int .i64 0)
    rw [xofC_set _ _ _ 0 0 rfl] at hB4
    have hB5 := hB4.set 26 (.int .i64 1)
    rw [xofC_set _ _ _ 1 1 rfl] at hB5
    have hw4 := (Wrote.set g 26 w3 (.int .i64 0)).trans (Wrote.set g 26 _ (.int .i64 1))
    have hch5 := hch3.trans (Chg.of_wrote hw4)
    have ht5 := ht3.chg (Chg.of_wrote hw4) (fun k hk h => by omega)
    clear hB3 hw3 hBd2 ht2 hch2 hBx hch3 ht3 hB4 hw4
    go_wp2_with fail
    generalize (w3.setCell ⟨g, 26, none⟩ (.int .i64 0)).setCell ⟨g, 26, none⟩ (.int .i64 1) = w5 at hB5 hch5 ht5
    have k26 : w5.cell? ⟨g, 26, none⟩ = some (.int .i64 1) := by rw [hB5.cell, xofC_given]; rfl
    have hB6 : BlkAt g 68 ([] ++ (stL (itF f (t + 1))).map (Value.int .u64) ++ [.int .i64 (c : Int), .int .i64 ((1 : Nat) : Int)]) w5 := hB5
    refine wpG_begin (by kernel_rfl) ?_
    refine wpG_take (i := 0) (oi := { dst := some 30, op := Op.move (Operand.tmp 0), type := 50, pos := "sponge.go:125", after := #[], guard := none }) (v := ?_) rfl (by kernel_rfl) (by kernel_rfl) (by kernel_rfl) (by rfl) ?_ ?_
    rotate_left
    · intro W hW; first | (go_simp; done) | (go_simp; with_reducible rfl)
    try simp only [Act.put, List.setIfInBounds_toArray, List.set_cons_zero, List.set_cons_succ]
    refine wpG_take (i := 1) (oi := { dst := some 31, op := Op.nilCheck (Operand.tmp 30), type := 0, pos := "sponge.go:125", after := #[{ on := 0, ground := Ground.data }], guard := none }) (v := ?_) rfl (by kernel_rfl) (by kernel_rfl) (by kernel_rfl) (by rfl) ?_ ?_
    rotate_left
    · intro W hW; first | (go_simp; done) | (go_simp; with_reducible rfl)
    try simp only [Act.put, List.setIfInBounds_toArray, List.set_cons_zero, List.set_cons_succ]
    refine wpG_take (i := 2) (oi := { dst := some 32, op := Op.fieldAddr 68 (Operand.tmp 31) 0, type := 0, pos := "sponge.go:125", after := #[{ on := 1, ground := Ground.data }], guard := none }) (v := ?_) rfl (by kernel_rfl) (by kernel_rfl) (by kernel_rfl) (by rfl) ?_ ?_
    rotate_left
    · intro W hW; first | (go_simp; done) | (go_simp; with_reducible rfl)
    try simp only [Act.put, List.setIfInBounds_toArray, List.set_cons_zero, List.set_cons_succ]
    refine wpG_take (i := 3) (oi := { dst := some 33, op := Op.load 66 (Operand.tmp 32), type := 66, pos := "sponge.go:125", after := #[{ on := 2, ground := Ground.data }], guard := none }) (v := ?_) rfl (by kernel_rfl) (by kernel_rfl) (by kernel_rfl) (by rfl) ?_ ?_
    rotate_left
    · intro W hW; refine Eq.trans (exec_load_blk 66 _ (by rfl) (g := g) (o := 0) (by go_simp; done) (hB6.drew.kept hW) rfl Tryd.underlying66 rfl (by rw [List.length_map]; exact arrInfo _)) ?_; with_reducible rfl
    try simp only [Act.put, List.setIfInBounds_toArray, List.set_cons_zero, List.set_cons_succ]
    refine wpG_take (i := 4) (oi := { dst := some 34, op := Op.move (Operand.tmp 0), type := 50, pos := "sponge.go:125", after := #[], guard := none }) (v := ?_) rfl (by kernel_rfl) (by kernel_rfl) (by kernel_rfl) (by rfl) ?_ ?_
    rotate_left
    · intro W hW; first | (go_simp; done) | (go_simp; with_reducible rfl)
    try simp only [Act.put, List.setIfInBounds_toArray, List.set_cons_zero, List.set_cons_succ]
    refine wpG_take (i := 5) (oi := { dst := some 35, op := Op.nilCheck (Operand.tmp 34), type := 0, pos := "sponge.go:125", after := #[{ on := 4, ground := Ground.data }], guard := none }) (v := ?_) rfl (by kernel_rfl) (by kernel_rfl) (by kernel_rfl) (by rfl) ?_ ?_
    rotate_left
    · intro W hW; first | (go_simp; done) | (go_simp; with_reducible rfl)
    try simp only [Act.put, List.setIfInBounds_toArray, List.set_cons_zero, List.set_cons_succ]
    refine wpG_take (i := 6) (oi := { dst := some 36, op := Op.fieldAddr 68 (Operand.tmp 35) 2, type := 0, pos := "sponge.go:125", after := #[{ on := 5, ground := Ground.data }], guard := none }) (v := ?_) rfl (by kernel_rfl) (by kernel_rfl) (by kernel_rfl) (by rfl) ?_ ?_
    rotate_left
    · intro W hW; first | (go_simp; done) | (go_simp; with_reducible rfl)
    try simp only [Act.put, List.setIfInBounds_toArray, List.set_cons_zero, List.set_cons_succ]
    refine wpG_take (i := 7) (oi := { dst := some 37, op := Op.load 3 (Operand.tmp 36), type := 3, pos := "sponge.go:125", after := #[{ on := 6, ground := Ground.data }], guard := none }) (v := ?_) rfl (by kernel_rfl) (by kernel_rfl) (by kernel_rfl) (by rfl) ?_ ?_
    rotate_left
    · intro W hW; have hcW := cellU k26 hW; first | (go_simp; done) | (go_simp; with_reducible rfl)
    try simp only [Act.put, List.setIfInBounds_toArray, List.set_cons_zero, List.set_cons_succ]
    refine wpG_take (i := 8) (oi := { dst := some 38, op := Op.binOp BinOp.sub 3 (Operand.tmp 37) (Operand.const (Value.int IntKind.i64 1)) 3, type := 3, pos := "sponge.go:125", after := #[{ on := 7, ground := Ground.data }], guard := none }) (v := ?_) rfl (by kernel_rfl) (by kernel_rfl) (by kernel_rfl) (by rfl) ?_ ?_
    rotate_left
    · intro W hW; first | (go_simp; done) | (go_simp; with_reducible rfl)
    try simp only [Act.put, List.setIfInBounds_toArray, List.set_cons_zero, List.set_cons_succ]
    refine wpG_do (i := 9) (o := { dst := some 39, op := Op.call { callee := Callee.value (Operand.func 63), args := #[Operand.tmp 33, Operand.tmp 38], argTypes := #[66, 3] }, type := 5, pos := "sponge.go:125", after := #[{ on := 3, ground := Ground.data }, { on := 8, ground := Ground.data }], guard := none }) (by kernel_rfl) rfl (by rfl) fun K hK => ?_
    go_simp
    refine (byteAt_any _ (itF f (t + 1)) (itF_lt f HF.out (t + 1)) rfl 0 (by omega) _).mono ?_
    rintro e w6 ⟨rfl, hB7⟩
    refine hK.out _ _ hB7 ?_
    clear hK K
    try simp only [Act.put, List.setIfInBounds_toArray, List.set_cons_zero, List.set_cons_succ]
    refine wpG_take (i := 10) (oi := { dst := some 2, op := Op.assign (Operand.tmp 39), type := 5, pos := "sponge.go:125", after := #[{ on := 9, ground := Ground.data }, { on := 9, ground := Ground.chain }, { on := 0, ground := Ground.phase }, { on := 1, ground := Ground.phase }, { on := 2, ground := Ground.phase }, { on := 3, ground := Ground.phase }, { on := 4, ground := Ground.phase }, { on := 5, ground := Ground.phase }, { on := 6, ground := Ground.phase }, { on := 7, ground := Ground.phase }, { on := 8, ground := Ground.phase }, { on := 9, ground := Ground.phase }], guard := none }) (v := ?_) rfl (by kernel_rfl) (by kernel_rfl) (by kernel_rfl) (by rfl) ?_ ?_
    rotate_left
    · intro W hW; first | (go_simp; done) | (go_simp; with_reducible rfl)
    try simp only [Act.put, List.setIfInBounds_toArray, List.set_cons_zero, List.set_cons_succ]
    refine wpG_done (by kernel_rfl) ?_
    have hfin : Chg (fun b => b = g) w w6 := hch5.drew.trans (.of_below hB7)
    have hBf : BlkAt g 68 (xofC (itF f (t + 1)) c 1) w6 := hB5.drew.kept hB7
    have htf := (ht5.kept (Below.refl _ _).drew).kept hB7
    go_wp2
    go_ret
    rw [HP.out]
    exact ⟨rfl, ⟨t + 1, 1, by omega, HP2.out, hBf⟩, hfin, htf⟩
  · have hclt : c < r := by omega
    have hne : ¬ (c : Int) = (r : Int) := by omega
    have HP : Hid (smF f r p = byF (itF f t) c) := by
      have := smF_at f r t c hclt
      rw [← hp] at this
      exact this
    have HP2 : Hid (p + 1 = t * r + (c + 1)) := by
      show p + 1 = _
      rw [hp]
      omega
    have cw : IntKind.i64.wrap ((c : Int) + 1) = (c : Int) + 1 := IntWalk.i64_in _ (by omega)
    have cw2 : IntKind.i64.wrap (c : Int) = (c : Int) := IntWalk.i64_in _ (by omega)
    clear hp
    go_enter Tryd.func49, Tryd.ntmps49
    go_wp2_with fail
    refine wpG_begin (by kernel_rfl) ?_
    refine wpG_take (i := 0) (oi := { dst := some 3, op := Op.move (Operand.tmp 0), type := 50, pos := "sponge.go:120", after := #[], guard := none }) (v := ?_) rfl (by kernel_rfl) (by kernel_rfl) (by kernel_rfl) (by rfl) ?_ ?_
    rotate_left
    · intro W hW; first | (go_simp; done) | (go_simp; with_reducible rfl)
    try simp only [Act.put, List.setIfInBounds_toArray, List.set_cons_zero, List.set_cons_succ]
    refine wpG_take (i := 1) (oi := { dst := some 4, op := Op.nilCheck (Operand.tmp 3), type := 0, pos := "sponge.go:120", after := #[{ on := 0, ground := Ground.data }], guard := none }) (v := ?_) rfl (by kernel_rfl) (by kernel_rfl) (by kernel_rfl) (by rfl) ?_ ?_
    rotate_left
    · intro W hW; first | (go_simp; done) | (go_simp; with_reducible rfl)
    try simp only [Act.put, List.setIfInBounds_toArray, List.set_cons_zero, List.set_cons_succ]
    refine wpG_take (i := 2) (oi := { dst := some 5, op := Op.fieldAddr 68 (Operand.tmp 4) 2, type := 0, pos := "sponge.go:120", after := #[{ on := 1, ground := Ground.data }], guard := none }) (v := ?_) rfl (by kernel_rfl) (by kernel_rfl) (by kernel_rfl) (by rfl) ?_ ?_
    rotate_left
    · intro W hW; first | (go_simp; done) | (go_simp; with_reducible rfl)
    try simp only [Act.put, List.setIfInBounds_toArray, List.set_cons_zero, List.set_cons_succ]
    refine wpG_take (i := 3) (oi := { dst := some 6, op := Op.load 3 (Operand.tmp 5), type := 3, pos := "sponge.go:120", after := #[{ on := 2, ground := Ground.data }], guard := none }) (v := ?_) rfl (by kernel_rfl) (by kernel_rfl) (by kernel_rfl) (by rfl) ?_ ?_
    rotate_left
    · intro W hW; have hcW := cellU c26 hW; first | (go_simp; done) | (go_simp; with_reducible rfl)
    try simp only [Act.put, List.setIfInBounds_toArray, List.set_cons_zero, List.set_cons_succ]
    refine wpG_take (i := 4) (oi := { dst := some 7, op := Op.move (Operand.tmp 0), type := 50, pos := "sponge.go:120", after := #[], guard := none }) (v := ?_) rfl (by kernel_rfl) (by kernel_rfl) (by kernel_rfl) (by rfl) ?_ ?_
    rotate_left
    · intro W hW; first | (go_simp; done) | (go_simp; with_reducible rfl)
    try simp only [Act.put, List.setIfInBounds_toArray, List.set_cons_zero, List.set_cons_succ]
    refine wpG_take (i := 5) (oi := { dst := some 8, op := Op.nilCheck (Operand.tmp 7), type := 0, pos := "sponge.go:120", after := #[{ on := 4, ground := Ground.data }], guard := none }) (v := ?_) rfl (by kernel_rfl) (by kernel_rfl) (by kernel_rfl) (by rfl) ?_ ?_
    rotate_left
    · intro W hW; first | (go_simp; done) | (go_simp; with_reducible rfl)
    try simp only [Act.put, List.setIfInBounds_toArray, List.set_cons_zero, List.set_cons_succ]
    refine wpG_take (i := 6) (oi := { dst := some 9, op := Op.fieldAddr 68 (Operand.tmp 8) 1, type := 0, pos := "sponge.go:120", after := #[{ on := 5, ground := Ground.data }], guard := none }) (v := ?_) rfl (by kernel_rfl) (by kernel_rfl) (by kernel_rfl) (by rfl) ?_ ?_
    rotate_left
    · intro W hW; first | (go_simp; done) | (go_simp; with_reducible rfl)
    try simp only [Act.put, List.setIfInBounds_toArray, List.set_cons_zero, List.set_cons_succ]
    refine wpG_take (i := 7) (oi := { dst := some 10, op := Op.load 3 (Operand.tmp 9), type := 3, pos := "sponge.go:120", after := #[{ on := 6, ground := Ground.data }], guard := none }) (v := ?_) rfl (by kernel_rfl) (by kernel_rfl) (by kernel_rfl) (by rfl) ?_ ?_
    rotate_left
    · intro W hW; have hcW := cellU c25 hW; first | (go_simp; done) | (go_simp; with_reducible rfl)
    try simp only [Act.put, List.setIfInBounds_toArray, List.set_cons_zero, List.set_cons_succ]
    refine wpG_take (i := 8) (oi := { dst := some 11, op := Op.binOp BinOp.eql 3 (Operand.tmp 6) (Operand.tmp 10) 3, type := 4, pos := "sponge.go:120", after := #[{ on := 3, ground := Ground.data }, { on := 7, ground := Ground.data }], guard := none }) (v := ?_) rfl (by kernel_rfl) (by kernel_rfl) (by kernel_rfl) (by rfl) ?_ ?_
    rotate_left
    · intro W hW; first | (go_simp; done) | (go_simp; with_reducible rfl)
    try simp only [Act.put, List.setIfInBounds_toArray, List.set_cons_zero, List.set_cons_succ]
    refine wpG_done (by kernel_rfl) ?_
    have hBd := hB.drew
    have htd := ht.kept (Below.refl _ _).drew
    have f26d : w.drew.frozen? ⟨g, 26, none⟩ = false := f26
    have c26d : w.drew.cell? ⟨g, 26, none⟩ = some (.int .i64 (c : Int)) := c26
    have hchd : Chg (fun b => b = g) w w.drew := (Chg.refl _ w).drew
    generalize w.drew = wd at hBd htd f26d c26d hchd ⊢
    have hB5 := hBd.set 26 (.int .i64 ((c : Int) + 1))
    rw [xofC_set _ _ _ (c + 1) _ (by omega)] at hB5
    have hw4 := Wrote.set g 26 wd (.int .i64 ((c : Int) + 1))
    have hch5 : Chg (fun b => b = g) w (wd.setCell ⟨g, 26, none⟩ (.int .i64 ((c : Int) + 1))) := hchd.trans (Chg.of_wrote hw4)
    have ht5 := htd.chg (Chg.of_wrote hw4) (fun k hk h => by omega)
    clear hBd htd hchd c25 c26 f26 hB ht hw4
    go_wp2_with fail
    generalize wd.setCell ⟨g, 26, none⟩ (.int .i64 ((c : Int) + 1)) = w5 at hB5 hch5 ht5
    have k26 : w5.cell? ⟨g, 26, none⟩ = some (.int .i64 ((c : Int) + 1)) := by rw [hB5.cell, xofC_given]; rfl
    have hB6 : BlkAt g 68 ([] ++ (stL (itF f t)).map (Value.int .u64) ++ [.int .i64 (r : Int), .int .i64 ((c + 1 : Nat) : Int)]) w5 := hB5
    refine wpG_begin (by kernel_rfl) ?_
    refine wpG_take (i := 0) (oi := { dst := some 30, op := Op.move (Operand.tmp 0), type := 50, pos := "sponge.go:125", after := #[], guard := none }) (v := ?_) rfl (by kernel_rfl) (by kernel_rfl) (by kernel_rfl) (by rfl) ?_ ?_
    rotate_left
    · intro W hW; first | (go_simp; done) | (go_simp; with_reducible rfl)
    try simp only [Act.put, List.setIfInBounds_toArray, List.set_cons_zero, List.set_cons_succ]
    refine wpG_take (i := 1) (oi := { dst := some 31, op := Op.nilCheck (Operand.tmp 30), type := 0, pos := "sponge.go:125", after := #[{ on := 0, ground := Ground.data }], guard := none }) (v := ?_) rfl (by kernel_rfl) (by kernel_rfl) (by kernel_rfl) (by rfl) ?_ ?_
    rotate_left
    · intro W hW; first | (go_simp; done) | (go_simp; with_reducible rfl)
    try simp only [Act.put, List.setIfInBounds_toArray, List.set_cons_zero, List.set_cons_succ]
    refine wpG_take (i := 2) (oi := { dst := some 32, op := Op.fieldAddr 68 (Operand.tmp 31) 0, type := 0, pos := "sponge.go:125", after := #[{ on := 1, ground := Ground.data }], guard := none }) (v := ?_) rfl (by kernel_rfl) (by kernel_rfl) (by kernel_rfl) (by rfl) ?_ ?_
    rotate_left
    · intro W hW; first | (go_simp; done) | (go_simp; with_reducible rfl)
    try simp only [Act.put, List.setIfInBounds_toArray, List.set_cons_zero, List.set_cons_succ]
    refine wpG_take (i := 3) (oi := { dst := some 33, op := Op.load 66 (Operand.tmp 32), type := 66, pos := "sponge.go:125", after := #[{ on := 2, ground := Ground.data }], guard := none }) (v := ?_) rfl (by kernel_rfl) (by kernel_rfl) (by kernel_rfl) (by rfl) ?_ ?_
    rotate_left
    · intro W hW; refine Eq.trans (exec_load_blk 66 _ (by rfl) (g := g) (o := 0) (by go_simp; done) (hB6.drew.kept hW) rfl Tryd.underlying66 rfl (by rw [List.length_map]; exact arrInfo _)) ?_; with_reducible rfl
    try simp only [Act.put, List.setIfInBounds_toArray, List.set_cons_zero, List.set_cons_succ]
    refine wpG_take (i := 4) (oi := { dst := some 34, op := Op.move (Operand.tmp 0), type := 50, pos := "sponge.go:125", after := #[], guard := none }) (v := ?_) rfl (by kernel_rfl) (by kernel_rfl) (by kernel_rfl) (by rfl) ?_ ?_
    rotate_left
    · intro W hW; first | (go_simp; done) | (go_simp; with_reducible rfl)
    try simp only [Act.put, List.setIfInBounds_toArray, List.set_cons_zero, List.set_cons_succ]
    refine wpG_take (i := 5) (oi := { dst := some 35, op := Op.nilCheck (Operand.tmp 34), type := 0, pos := "sponge.go:125", after := #[{ on := 4, ground := Ground.data }], guard := none }) (v := ?_) rfl (by kernel_rfl) (by kernel_rfl) (by kernel_rfl) (by rfl) ?_ ?_
    rotate_left
    · intro W hW; first | (go_simp; done) | (go_simp; with_reducible rfl)
    try simp only [Act.put, List.setIfInBounds_toArray, List.set_cons_zero, List.set_cons_succ]
    refine wpG_take (i := 6) (oi := { dst := some 36, op := Op.fieldAddr 68 (Operand.tmp 35) 2, type := 0, pos := "sponge.go:125", after := #[{ on := 5, ground := Ground.data }], guard := none }) (v := ?_) rfl (by kernel_rfl) (by kernel_rfl) (by kernel_rfl) (by rfl) ?_ ?_
    rotate_left
    · intro W hW; first | (go_simp; done) | (go_simp; with_reducible rfl)
    try simp only [Act.put, List.setIfInBounds_toArray, List.set_cons_zero, List.set_cons_succ]
    refine wpG_take (i := 7) (oi := { dst := some 37, op := Op.load 3 (Operand.tmp 36), type := 3, pos := "sponge.go:125", after := #[{ on := 6, ground := Ground.data }], guard := none }) (v := ?_) rfl (by kernel_rfl) (by kernel_rfl) (by kernel_rfl) (by rfl) ?_ ?_
    rotate_left
    · intro W hW; have hcW := cellU k26 hW; first | (go_simp; done) | (go_simp; with_reducible rfl)
    try simp only [Act.put, List.setIfInBounds_toArray, List.set_cons_zero, List.set_cons_succ]
    refine wpG_take (i := 8) (oi := { dst := some 38, op := Op.binOp BinOp.sub 3 (Operand.tmp 37) (Operand.const (Value.int IntKind.i64 1)) 3, type := 3, pos := "sponge.go:125", after := #[{ on := 7, ground := Ground.data }], guard := none }) (v := ?_) rfl (by kernel_rfl) (by kernel_rfl) (by kernel_rfl) (by rfl) ?_ ?_
    rotate_left
    · intro W hW; first | (go_simp; done) | (go_simp; with_reducible rfl)
    try simp only [Act.put, List.setIfInBounds_toArray, List.set_cons_zero, List.set_cons_succ]
    refine wpG_do (i := 9) (o := { dst := some 39, op := Op.call { callee := Callee.value (Operand.func 63), args := #[Operand.tmp 33, Operand.tmp 38], argTypes := #[66, 3] }, type := 5, pos := "sponge.go:125", after := #[{ on := 3, ground := Ground.data }, { on := 8, ground := Ground.data }], guard := none }) (by kernel_rfl) rfl (by rfl) fun K hK => ?_
    go_simp
    refine (byteAt_any _ (itF f t) (itF_lt f HF.out t) rfl c (by omega) _).mono ?_
    rintro e w6 ⟨rfl, hB7⟩
    refine hK.out _ _ hB7 ?_
    clear hK K
    try simp only [Act.put, List.setIfInBounds_toArray, List.set_cons_zero, List.set_cons_succ]
    refine wpG_take (i := 10) (oi := { dst := some 2, op := Op.assign (Operand.tmp 39), type := 5, pos := "sponge.go:125", after := #[{ on := 9, ground := Ground.data }, { on := 9, ground := Ground.chain }, { on := 0, ground := Ground.phase }, { on := 1, ground := Ground.phase }, { on := 2, ground := Ground.phase }, { on := 3, ground := Ground.phase }, { on := 4, ground := Ground.phase }, { on := 5, ground := Ground.phase }, { on := 6, ground := Ground.phase }, { on := 7, ground := Ground.phase }, { on := 8, ground := Ground.phase }, { on := 9, ground := Ground.phase }], guard := none }) (v := ?_) rfl (by kernel_rfl) (by kernel_rfl) (by kernel_rfl) (by rfl) ?_ ?_
    rotate_left
    · intro W hW; first | (go_simp; done) | (go_simp; with_reducible rfl)
    try simp only [Act.put, List.setIfInBounds_toArray, List.set_cons_zero, List.set_cons_succ]
    refine wpG_done (by kernel_rfl) ?_
    have hfin : Chg (fun b => b = g) w w6 := hch5.drew.trans (.of_below hB7)
    have hBf : BlkAt g 68 (xofC (itF f t) r (c + 1)) w6 := hB5.drew.kept hB7
    have htf := (ht5.kept (Below.refl _ _).drew).kept hB7
    go_wp2
    go_ret
    rw [HP.out]
    exact ⟨rfl, ⟨t, c + 1, by omega, HP2.out, hBf⟩, hfin, htf⟩
end Go.Proofs.YtlcnepnappfjeaaDoor
