/- What functions of the program, or of the reference, answer: contracts; several texts in one. -/
import Derived.Test.YtliiofjcghdjoaaDoorRows
import Derived.Test.YtliiofjcghdjoaaDoorBase
import Derived.Deep.QuietTactic
import Derived.BigQuiet
import Derived.WalkSpells
import Derived.RegionTactic
import Derived.BigRegion
import Derived.Test.YtliiofjcghdjoaaDoorKec

/- What the document's own Load and Store answer, for whatever reads as bytes: contracts of the reference of layer 1. -/
namespace Go.Proofs.YtliiofjcghdjoaaDoor
open Go.ChangeShapes Go.WideShapes Go.ChangeAt Go.RowKit
set_option linter.unusedSimpArgs false
set_option linter.unusedVariables false

set_option maxHeartbeats 400000 in
theorem refload_any (v : Value) (l : List UInt8) (w : World) (hr : Rd w v l) :
    Calls Tryd.prog 71 #[v] w fun e w' => e = .returned (.int .u64 ((leN (l.take 8) : Nat) : Int)) ∧ w' = w := by
  obtain ⟨a, cap, rfl, h2, h3, h4, h5⟩ := hr
  unfold maxLen at h3
  go_enter Tryd.func71, Tryd.ntmps71
  go_wp2
  all_goals
    go_loop [3, 5] (fun x i => ∃ k : Nat, k ≤ l.length ∧ k ≤ 8 ∧ i = .int .i64 ((k : Int) - 1) ∧ x = .int .u64 ((leN ((l.take 8).drop k) : Nat) : Int)) (fun _ i => (intOf i + 1).toNat)
    case atStart => 
      first
      | exact ⟨8, by omega, by omega, rfl, valI (by rw [List.drop_eq_nil_of_le (by simp; omega)]; rfl)⟩
      | exact ⟨l.length, by omega, by omega, rfl, valI (by rw [List.drop_eq_nil_of_le (by simp; omega)]; rfl)⟩
    case round =>
      obtain ⟨k, hk, hk8, rfl, rfl⟩ := hrel
      by_cases hlt : 0 < k
      · obtain ⟨j, rfl⟩ : ∃ j, k = j + 1 := ⟨k - 1, by omega⟩
        rcases h5 with rfl | ⟨b, off, rfl, hc⟩
        · simp at hk
        have hck := hc j (by omega)
        have HS : Hid _ := refload_step l j (by omega) (by omega)
        clear hc h4
        go_wp2
        go_round
        case rel => exact ⟨j, by omega, by omega, by go_num, valI (by simpa using HS.out)⟩
        case measure => simp [intOf]
      · go_wp2
        go_ret
        refine ⟨retI ?_, rfl⟩
        have : k = 0 := by omega
        subst this
        rfl

theorem infoU8 : (Tryd.prog.info? 5).map (fun i => (i.zero, i.size, i.bytes)) = some (some (.int .u8 0), 1, 1) := by kernel_rfl

set_option maxHeartbeats 400000 in
theorem refstore_k (x : Nat) (hx : x < 18446744073709551616) (n : Int) (k : Nat) (hk : k ≤ 8) (hn : (n < 0 ∧ k = 0) ∨ (0 ≤ n ∧ n ≤ 8 ∧ n = k) ∨ (8 < n ∧ k = 8)) (w : World) :
    Calls Tryd.prog 53 #[.int .u64 x, .int .i64 n] w fun e w' => ∃ v, e = .returned v ∧ New 5 w v ((List.range k).map (stB x)) w' := by
  obtain ⟨i, hi, hz0, hz1, hz2⟩ := info_parts infoU8
  have HK : Hid ((n < 0 ∧ k = 0) ∨ (0 ≤ n ∧ n ≤ 8 ∧ n = k) ∨ (8 < n ∧ k = 8)) := hn
  clear hn
  go_enter Tryd.func53, Tryd.ntmps53
  go_wp2
  go_loopw [0, 5, 6] (fun xv v i wr => ∃ j y : Nat, j ≤ k ∧ Hid (y = x / 256 ^ j) ∧ xv = .int .u64 (y : Int) ∧ i = .int .i64 j ∧ New 5 w v ((List.range j).map (stB x)) wr) (fun _ _ i _ => k - (intOf i).toNat)
  case atStart => exact ⟨0, x, Nat.zero_le _, by simp [Hid], rfl, rfl, New.start w⟩
  case round =>
    obtain ⟨j, y, hj, Hy, rfl, rfl, hN⟩ := hrel
    have hy : (0 : Int) ≤ (y : Int) := by omega
    have hy2 : (y : Int) < 18446744073709551616 := by have := Hy.out; have := Nat.div_le_self x (256 ^ j); omega
    by_cases hlt : j < k
    · have h1 : (j : Int) < n := by have := HK.out; omega
      have h2 : (j : Int) < 8 := by omega
      go_wp2_with (at_builtin; go_must (refine wpList_append_new (w := w) rfl _ _ 40 rfl 5 Tryd.underlying40 infoU8 _ _ rfl (hN.alloc _) _ _ rfl (Rd.lit1 (stB x j) (by rw [← stB_mod, ← Hy.out])) (by simp; omega) ?_))
      intro v' w2 hN2 _
      go_wp2
      go_roundw
      case rel => exact ⟨j + 1, y / 256, by omega, by rw [Hy.out]; exact div_succ x j, by go_num, by go_num, by rw [List.range_succ, List.map_append]; exact hN2⟩
      case measure => simp [intOf]; omega
    · have hjk : j = k := by omega
      subst hjk
      have hno : ¬ (j : Int) < n ∨ ((j : Int) < n ∧ ¬ (j : Int) < 8) := by have := HK.out; omega
      rcases hno with h1 | ⟨h1, h2⟩
      all_goals
        go_wp2
        go_ret
        exact ⟨_, rfl, hN⟩
end Go.Proofs.YtliiofjcghdjoaaDoor

/- What the document's own joining answers: a contract of the reference of layer 1. -/
namespace Go.Proofs.YtliiofjcghdjoaaDoor
open Go.ChangeShapes Go.WideShapes Go.ChangeAt Go.RowKit
set_option linter.unusedSimpArgs false
set_option linter.unusedVariables false

theorem joinR_any (va vb : Value) (a b : List UInt8) (hl : a.length + b.length ≤ 140737488355328) (w : World) (ha : Rd w va a) (hb : Rd w vb b) :
    Calls Tryd.prog 51 #[va, vb] w fun e w' => ∃ r, e = .returned r ∧ New 5 w r (a ++ b) w' := by
  have HL : Hid (a.length + b.length ≤ 140737488355328) := hl
  have HL0 : Hid (([] : List UInt8).length + a.length ≤ 140737488355328) := by show _ ≤ _; simp; omega
  have hN0 : New 5 w (.slice none 0 0) [] w := New.start w
  clear hl
  go_enter Tryd.func51, Tryd.ntmps51
  go_wp2_with (at_builtin; go_must (refine wpList_append_new (w := w) rfl _ _ 40 rfl 5 Tryd.underlying40 infoU8 _ _ rfl hN0 _ _ rfl ha HL0.out ?_))
  intro v1 w1 hN1 _
  replace hb := hb.kept hN1.2
  go_wp2_with (at_builtin; go_must (refine wpList_append_new (w := w) rfl _ _ 40 rfl 5 Tryd.underlying40 infoU8 _ _ rfl hN1 _ _ rfl hb HL.out ?_))
  intro v2 w2 hN2 _
  go_wp2
  go_ret
  exact ⟨_, rfl, hN2⟩
end Go.Proofs.YtliiofjcghdjoaaDoor

/- What the document's own empty state is: a contract of the reference of layer 2. -/
namespace Go.Proofs.YtliiofjcghdjoaaDoor
open Go.ChangeShapes Go.WideShapes Go.ChangeAt Go.RowKit
set_option linter.unusedSimpArgs false
set_option linter.unusedVariables false

theorem sizeU64 : (Tryd.prog.info? 22).map (·.size) = some 1 := by kernel_rfl
theorem infoU64 : (Tryd.prog.info? 22).map (fun i => (i.zero, i.size, i.bytes)) = some (some (.int .u64 0), 1, 8) := by kernel_rfl

end Go.Proofs.YtliiofjcghdjoaaDoor

/- What the document's own turning of a lane and its constants answer: contracts of the reference of layer 2, sixth part. -/
namespace Go.Proofs.YtliiofjcghdjoaaDoor
open Go.ChangeShapes Go.WideShapes Go.ChangeAt Go.RowKit
set_option linter.unusedSimpArgs false
set_option linter.unusedVariables false

end Go.Proofs.YtliiofjcghdjoaaDoor

/- Left empty: this seat lacks the reference. -/
namespace Go.Proofs.YtliiofjcghdjoaaDoor
end Go.Proofs.YtliiofjcghdjoaaDoor

/- What the document's own bytes of a state, and state of bytes, are: contracts of the reference of layer 3, first part. -/
namespace Go.Proofs.YtliiofjcghdjoaaDoor
open Go.ChangeShapes Go.WideShapes Go.ChangeAt Go.RowKit
set_option linter.unusedSimpArgs false
set_option linter.unusedVariables false

end Go.Proofs.YtliiofjcghdjoaaDoor

/- What comes out of a state, as the document says it: a contract of the reference of layer 3, second part. -/
namespace Go.Proofs.YtliiofjcghdjoaaDoor
open Go.ChangeShapes Go.WideShapes Go.ChangeAt Go.RowKit
set_option linter.unusedSimpArgs false
set_option linter.unusedVariables false


/-- A row of another kind of cells is as it was behind an append. -/
theorem NewI.past {k : IntKind} {e e' : TypeId} {w w2 w3 : World} {v o : Value} {l : List Int} {lo : List UInt8} (h : NewI k e w v l w2) (ho : New e' w o lo w2) (hne : e ≠ e') (hg : w2.grownBy w3 o.ownBlock) (hb : Below w.heap.size w w3) : NewI k e w v l w3 := by
  refine ⟨⟨h.1.1, h.1.2.imp id ?_⟩, hb⟩
  rintro ⟨g, cap, cur, e1, h2, h3, h4⟩
  refine ⟨g, cap, cur, e1, h2, ?_, h4⟩
  rw [hg.block g (Array.getElem?_eq_some_iff.1 h3).1 ?_, h3]
  intro hc
  rcases ho.1.2 with ⟨rfl, _⟩ | ⟨g', cap', cur', rfl, _, h3', _⟩
  · cases hc
  · simp only [Value.ownBlock, Option.some.injEq] at hc
    subst hc
    rw [h3] at h3'
    simp only [Option.some.injEq, Obj.cells.injEq] at h3'
    exact hne h3'.2.1
theorem NewI.from {k : IntKind} {e : TypeId} {w wr w2 : World} {v : Value} {l : List Int} (h : NewI k e wr v l w2) (hb : Below w.heap.size w wr) : NewI k e w v l w2 := by
  refine ⟨⟨h.1.1, h.1.2.imp id ?_⟩, hb.trans (h.2.mono hb.size)⟩
  rintro ⟨g, cap, cur, e1, h2, h3⟩
  exact ⟨g, cap, cur, e1, Nat.le_trans hb.size h2, h3⟩
/-- A state that lies where it lay at the start, or in new memory. -/
def AtI (e : TypeId) (w : World) (va : Value) (v : Value) (f : Nat → Nat) (wr : World) : Prop := (v = va ∧ RdI .u64 w va (stL f) ∧ Below w.heap.size w wr) ∨ NewI .u64 e w v (stL f) wr
theorem AtI.rd {e : TypeId} {w wr : World} {va v : Value} {f : Nat → Nat} (h : AtI e w va v f wr) : RdI .u64 wr v (stL f) := by
  rcases h with ⟨rfl, h, hb⟩ | h
  · exact h.kept hb
  · exact h.rd
theorem AtI.kept {e : TypeId} {w wr w2 : World} {va v : Value} {f : Nat → Nat} (h : AtI e w va v f wr) (hb : Below wr.heap.size wr w2) : AtI e w va v f w2 := by
  rcases h with ⟨rfl, h, hb0⟩ | h
  · exact .inl ⟨rfl, h, stepB hb0 hb⟩
  · exact .inr (h.kept hb)
theorem AtI.past {e e' : TypeId} {w w2 w3 : World} {va v o : Value} {f : Nat → Nat} {lo lo' : List UInt8} {o' : Value} (h : AtI e w va v f w2) (ho : New e' w o lo w2) (hne : e ≠ e') (hg : w2.grownBy w3 o.ownBlock) (ho' : New e' w o' lo' w3) : AtI e w va v f w3 := by
  rcases h with ⟨rfl, h, hb0⟩ | h
  · exact .inl ⟨rfl, h, ho'.2⟩
  · exact .inr (h.past ho hne hg ho'.2)

end Go.Proofs.YtliiofjcghdjoaaDoor

/- Left empty: this seat lacks the reference. -/
namespace Go.Proofs.YtliiofjcghdjoaaDoor
end Go.Proofs.YtliiofjcghdjoaaDoor

/- What the document's own Absorb answers at every rate: a contract of the reference of layer 3, fourth part. -/
namespace Go.Proofs.YtliiofjcghdjoaaDoor
open Go.ChangeShapes Go.WideShapes Go.ChangeAt Go.RowKit
set_option linter.unusedSimpArgs false
set_option linter.unusedVariables false

end Go.Proofs.YtliiofjcghdjoaaDoor
