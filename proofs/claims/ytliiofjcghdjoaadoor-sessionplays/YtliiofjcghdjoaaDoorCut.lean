/- Slices of bytes that are cut, in front or behind, wherever they lie. -/
import Derived.Test.YtliiofjcghdjoaaDoorBase
import Derived.Test.YtliiofjcghdjoaaDoorChecked
import Derived.OwnWalk
namespace Go.Proofs.YtliiofjcghdjoaaDoor
open Go.ChangeShapes Go.WideShapes Go.ChangeAt Go.RowKit
set_option linter.unusedSimpArgs false
set_option linter.unusedVariables false

theorem exec_head {op : Oper} {a : Act} {W : World} {ab : Option Addr} {L cb m : Nat} (x h : Operand) (ho : op.op = .slice 40 x none (some h) none) (hx : a.eval x = .slice ab L cb) (hh : a.eval h = .int .i64 (m : Int)) (hm : m ≤ L) (hL : L ≤ cb) (hc : cb ≤ maxLen) (hn : ab = none → cb = 0) :
    (execOp a.eval op).run Tryd.prog W = .ok (.value (.slice ab m cb)) W := by
  have h1 : (m : Int) ≤ (cb : Int) := by omega
  unfold maxLen at hc
  unfold execOp
  simp only [ho, hx, hh, Option.map]
  cases ab with
  | none =>
    have := hn rfl
    subst this
    obtain rfl : m = 0 := by omega
    obtain rfl : L = 0 := by omega
    go_simp
  | some y =>
    go_simp
theorem exec_tail {ab : Option Addr} {L cb m : Nat} (hm : m ≤ L) (hL : L ≤ cb) (hc : cb ≤ maxLen) (hn : ab = none → cb = 0) :
    ∃ ab' : Option Addr, (∀ {op : Oper} {a : Act} {W : World} (x h : Operand), op.op = .slice 40 x (some h) none none → a.eval x = .slice ab L cb → a.eval h = .int .i64 (m : Int) → (execOp a.eval op).run Tryd.prog W = .ok (.value (.slice ab' (L - m) (cb - m))) W) ∧
      ∀ (w : World) (b : List UInt8), Rd w (.slice ab L cb) b → Rd w (.slice ab' (L - m) (cb - m)) (b.drop m) := by
  have h1 : (m : Int) ≤ (L : Int) := by omega
  have h2 : (L : Int) ≤ (cb : Int) := by omega
  unfold maxLen at hc
  cases ab with
  | none =>
    have := hn rfl
    subst this
    obtain rfl : L = 0 := by omega
    obtain rfl : m = 0 := by omega
    refine ⟨none, fun x h ho hx hh => ?_, fun w b hb => hb⟩
    unfold execOp
    simp only [ho, hx, hh, Option.map]
    go_simp
  | some y =>
    by_cases hcm : cb = m
    · refine ⟨some y, fun x h ho hx hh => ?_, fun w b hb => ?_⟩
      · unfold execOp
        simp only [ho, hx, hh, Option.map]
        go_simp
      · obtain ⟨a', c', ev, h3, h4, h5, h6⟩ := hb
        simp only [Value.slice.injEq] at ev
        obtain ⟨rfl, hLb, rfl⟩ := ev
        have h0 : b.drop m = [] := List.drop_eq_nil_of_le (by omega)
        rw [h0, show L - m = 0 by omega, hcm, Nat.sub_self]
        exact ⟨_, 0, rfl, by simp, by simp, fun _ => rfl, .inl rfl⟩
    · refine ⟨some (y.add m), fun x h ho hx hh => ?_, fun w b hb => ?_⟩
      · unfold execOp
        simp only [ho, hx, hh, Option.map]
        go_simp
      · obtain ⟨a', c', ev, h3, h4, h5, h6⟩ := hb
        simp only [Value.slice.injEq] at ev
        obtain ⟨rfl, hLb, rfl⟩ := ev
        refine ⟨_, _, (by rw [List.length_drop, ← hLb]), (by rw [List.length_drop]; omega), (by unfold maxLen; omega), (fun h => by cases h), ?_⟩
        rcases h6 with rfl | ⟨g, off, e, hcell⟩
        · exact .inl (by simp)
        · simp only [Option.some.injEq] at e
          subst e
          refine .inr ⟨g, off + m, by unfold Addr.add; split <;> simp_all, fun i hi => ?_⟩
          rw [List.length_drop] at hi
          rw [Nat.add_assoc, hcell (m + i) (by omega)]
          simp
end Go.Proofs.YtliiofjcghdjoaaDoor
