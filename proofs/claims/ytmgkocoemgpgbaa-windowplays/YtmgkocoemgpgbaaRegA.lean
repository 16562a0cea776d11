/- An operation of a region found by its place, and what a taken one asks, in one word. No program's text is named. -/
import Derived.Deep.RegionHeld3
import Derived.Below
namespace Go.Proofs.Ytmgkocoemgpgbaa
set_option linter.unusedVariables false

/-- The operation at a place. -/
def nthO : List Oper → Nat → Option Oper
  | [], _ => none
  | x :: _, 0 => some x
  | _ :: xs, n + 1 => nthO xs n
theorem nthO_at : ∀ (l : List Oper) (i : Nat) (o : Oper), nthO l i = some o → l[i]? = some o
  | [], _, _, h => by simp [nthO] at h
  | x :: xs, 0, o, h => by simpa [nthO] using h
  | x :: xs, n + 1, o, h => by simpa [nthO] using nthO_at xs n o h
theorem nA {ops : Array Oper} {i : Nat} {o : Oper} (h : nthO ops.toList i = some o) : ops[i]? = some o := by
  rw [← Array.getElem?_toList]
  exact nthO_at _ _ _ h
def takeB (md : Region.Mode) (ops : Array Oper) (listed : Array Bool) (i : Nat) : Bool := Region.noSelect ops && (Region.free md ops listed i && (Region.ready md ops listed).contains i)
theorem takeB_1 {md : Region.Mode} {ops : Array Oper} {listed : Array Bool} {i : Nat} (h : takeB md ops listed i = true) : Region.noSelect ops = true := by
  simp only [takeB, Bool.and_eq_true] at h
  exact h.1
theorem takeB_2 {md : Region.Mode} {ops : Array Oper} {listed : Array Bool} {i : Nat} (h : takeB md ops listed i = true) : Region.free md ops listed i = true := by
  simp only [takeB, Bool.and_eq_true] at h
  exact h.2.1
theorem takeB_3 {md : Region.Mode} {ops : Array Oper} {listed : Array Bool} {i : Nat} (h : takeB md ops listed i = true) : (Region.ready md ops listed).contains i = true := by
  simp only [takeB, Bool.and_eq_true] at h
  exact h.2.2
theorem pA_ {α : Type _} (l : List α) (i : Nat) (a : α) : l.toArray.setIfInBounds i a = (l.set i a).toArray := List.setIfInBounds_toArray ..
theorem pB_ {α : Type _} (a b : α) (l : List α) : (a :: l).set 0 b = b :: l := List.set_cons_zero
theorem pC_ {α : Type _} (a b : α) (l : List α) (n : Nat) : (a :: l).set (n + 1) b = a :: l.set n b := List.set_cons_succ
end Go.Proofs.Ytmgkocoemgpgbaa
