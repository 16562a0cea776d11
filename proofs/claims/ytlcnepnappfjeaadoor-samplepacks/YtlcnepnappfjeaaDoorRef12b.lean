/- What the document's own small polynomials and unpacked ones are: contracts of the reference of layer 12, second part. -/
import Derived.Test.YtlcnepnappfjeaaDoorRef12a
namespace Go.Proofs.YtlcnepnappfjeaaDoor
open Go.ChangeShapes Go.WideShapes Go.ChangeAt Go.RowKit
set_option linter.unusedSimpArgs false
set_option linter.unusedVariables false

/-- Two results, the first one in a block. -/
theorem bodyPost_po {k : IntKind} {e : TypeId} {g cap : Nat} {l : List Int} {P : Program} {fn : Func} {p q : Tmp} {ty : TypeId} {d : TypeDesc} {v : Value} {R : Ending → World → Prop} {a : Act} {w : World} (h : fn.results = #[.cell p ty, .tmp q]) (hd : a.defers = [])
    (hp : a.tmps.getD p undef = .pointer (some ⟨g, 0, none⟩)) (hq : a.tmps.getD q undef = v) (hr : RowAt k e g cap l w) (hu : P.underlying ty = some d) (hrow : d.isRow = true) (hi : (P.info? ty).map (·.size) = some l.length)
    (hR : R (.returned (.tuple #[.agg (l.map (Value.int k)).toArray, v])) w) : bodyPost P fn R .ret a w := by
  refine bodyPost_ret ?_ hd hR
  have hp' : a.tmps[p]?.getD undef = .pointer (some ⟨g, 0, none⟩) := by simpa using hp
  have hq' : a.tmps[q]?.getD undef = v := by simpa using hq
  have hl := hr.load (P := P) hu hrow hi
  simp [results, h, hp', hq', asAddr, hl]

set_option maxRecDepth 100000 in
set_option maxHeartbeats 2000000 in
theorem noise12_arg (D : Int) (v : Value) (b : List UInt8) (w : World) (hb : Rd w v b) (h : ¬ (1 ≤ D ∧ D ≤ 3 ∧ (b.length : Int) = 64 * D)) :
    Calls Tryd.prog 13 #[.int .i64 D, v] w fun e w' => e = .returned (.tuple #[poV fun _ => 0, .int .i64 1]) ∧ Below w.heap.size w w' := by
  obtain ⟨ab, cb, rfl, -, -, -, -⟩ := id hb
  have hcase : (decide (D < 1) = true ∧ D < 1) ∨ (decide (D < 1) = false ∧ decide (3 < D) = true ∧ 1 ≤ D ∧ 3 < D) ∨ (decide (D < 1) = false ∧ decide (3 < D) = false ∧ 1 ≤ D ∧ D ≤ 3 ∧ IntKind.i64.wrap (64 * D) = 64 * D ∧ ((b.length : Int) != 64 * D) = true) := by
    by_cases h1 : D < 1
    · exact .inl ⟨decide_eq_true h1, h1⟩
    · by_cases h2 : 3 < D
      · exact .inr (.inl ⟨decide_eq_false h1, decide_eq_true h2, by omega, h2⟩)
      · refine .inr (.inr ⟨decide_eq_false h1, decide_eq_false h2, by omega, by omega, IntWalk.i64_in _ (by omega), ?_⟩)
        simp only [bne_iff_ne, ne_eq]
        omega
  clear h hb
  rcases hcase with ⟨c1, c2⟩ | ⟨c1, c2, c3, c4⟩ | ⟨c1, c2, c3, c4, c5, c6⟩
  all_goals
    go_enter Tryd.func13, Tryd.ntmps13
    go_wp2_with (refine wpList_alloc_row (k := .i64) rfl 24 rfl (gI fun _ => 0) (alloc_po _) (gI_ne _) (poMax _) ?_)
    intro w1 rz bn sn
    rw [gI_length] at rz
    have hbw := bn
    have n1 : w.heap.size < w1.heap.size := by have := sn.out; omega
    clear bn sn
    go_wp2_with (refine wpList_alloc_row (k := .i64) rfl 24 rfl (gI fun _ => 0) (alloc_po _) (gI_ne _) (poMax _) ?_)
    intro w2 rp bn sn
    rw [gI_length] at rp
    replace rz := rz.kept bn
    replace hbw := stepB hbw bn
    have n2 : w1.heap.size < w2.heap.size := by have := sn.out; omega
    clear bn sn
    go_wp2_with (first | refine wpList_load_row rfl 24 _ rfl rfl rp _ Tryd.underlying24 rfl (poInfo _) ?_ | (refine wpList_store_row rfl 24 _ _ rfl (gI fun _ => 0) rfl rfl rz (by rw [gI_length]) (poInfo _) ?_; intro w7 r7 hw7))
    refine bodyPost_po (k := .i64) rfl rfl rfl rfl r7 Tryd.underlying24 rfl (poInfo _) ?_
    exact ⟨rfl, hw7.below _ _ (Nat.le_refl _) hbw⟩

set_option maxRecDepth 100000 in
set_option maxHeartbeats 2000000 in
theorem unpack12_arg (D : Int) (v : Value) (b : List UInt8) (w : World) (hb : Rd w v b) (h : ¬ (1 ≤ D ∧ D ≤ 12 ∧ (b.length : Int) = 32 * D)) :
    Calls Tryd.prog 17 #[.int .i64 D, v] w fun e w' => e = .returned (.tuple #[poV fun _ => 0, .int .i64 1]) ∧ Below w.heap.size w w' := by
  obtain ⟨ab, cb, rfl, -, -, -, -⟩ := id hb
  have hcase : (decide (D < 1) = true ∧ D < 1) ∨ (decide (D < 1) = false ∧ decide (12 < D) = true ∧ 1 ≤ D ∧ 12 < D) ∨ (decide (D < 1) = false ∧ decide (12 < D) = false ∧ 1 ≤ D ∧ D ≤ 12 ∧ IntKind.i64.wrap (32 * D) = 32 * D ∧ ((b.length : Int) != 32 * D) = true) := by
    by_cases h1 : D < 1
    · exact .inl ⟨decide_eq_true h1, h1⟩
    · by_cases h2 : 12 < D
      · exact .inr (.inl ⟨decide_eq_false h1, decide_eq_true h2, by omega, h2⟩)
      · refine .inr (.inr ⟨decide_eq_false h1, decide_eq_false h2, by omega, by omega, IntWalk.i64_in _ (by omega), ?_⟩)
        simp only [bne_iff_ne, ne_eq]
        omega
  clear h hb
  rcases hcase with ⟨c1, c2⟩ | ⟨c1, c2, c3, c4⟩ | ⟨c1, c2, c3, c4, c5, c6⟩
  all_goals
    go_enter Tryd.func17, Tryd.ntmps17
    go_wp2_with (refine wpList_alloc_row (k := .i64) rfl 24 rfl (gI fun _ => 0) (alloc_po _) (gI_ne _) (poMax _) ?_)
    intro w1 rz bn sn
    rw [gI_length] at rz
    have hbw := bn
    have n1 : w.heap.size < w1.heap.size := by have := sn.out; omega
    clear bn sn
    go_wp2_with (refine wpList_alloc_row (k := .i64) rfl 24 rfl (gI fun _ => 0) (alloc_po _) (gI_ne _) (poMax _) ?_)
    intro w2 rp bn sn
    rw [gI_length] at rp
    replace rz := rz.kept bn
    replace hbw := stepB hbw bn
    have n2 : w1.heap.size < w2.heap.size := by have := sn.out; omega
    clear bn sn
    go_wp2_with (first | refine wpList_load_row rfl 24 _ rfl rfl rp _ Tryd.underlying24 rfl (poInfo _) ?_ | (refine wpList_store_row rfl 24 _ _ rfl (gI fun _ => 0) rfl rfl rz (by rw [gI_length]) (poInfo _) ?_; intro w7 r7 hw7))
    refine bodyPost_po (k := .i64) rfl rfl rfl rfl r7 Tryd.underlying24 rfl (poInfo _) ?_
    exact ⟨rfl, hw7.below _ _ (Nat.le_refl _) hbw⟩
end Go.Proofs.YtlcnepnappfjeaaDoor
