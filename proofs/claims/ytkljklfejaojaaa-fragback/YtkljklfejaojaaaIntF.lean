/- Numbers that come in, and slices of them that are cut. -/
import Derived.Test.YtkljklfejaojaaaActF
import Derived.Test.YtkljklfejaojaaaRowF
namespace Go.Proofs.Ytkljklfejaojaaa
open Go.ChangeShapes Go.WideShapes Go.ChangeAt Go.RowKit
set_option linter.unusedSimpArgs false
set_option linter.unusedVariables false

/-- Numbers that came in. -/
theorem ints19_open {H : Type} {enc : TypeId × Value → H} {W : World} {base fuel : Nat} {spare : Nat → Bool} {held : Bool} {v : Value} {x : DataW H × List MemPlace} (h : DataW.trod enc Try.prog W base spare held fuel 57 [v] = some x) :
    ∃ l : List Int, RdC W v (l.map (Value.int .i64)) := by
  rcases open_ints Try.underlying57 Try.underlying3 (by kernel_rfl) h with ⟨hcs, _⟩ | ⟨a, len, cap, zs, hcs, _, hl, hm, hz, _, hcell, hwz⟩
  · simp at hcs
    subst hcs
    exact ⟨[], RdC.nil W⟩
  · simp at hcs
    subst hcs
    have hzl : len ≤ zs.length := by rw [hz]; split <;> omega
    have hlen : ((zs.take len).map (Value.int .i64)).length = len := by simp; omega
    refine ⟨zs.take len, some a, cap, by rw [hlen], by rw [hlen]; exact hl, hm, (fun h => by cases h), ?_⟩
    by_cases h0 : len = 0
    · left; exact List.eq_nil_of_length_eq_zero (by rw [hlen]; exact h0)
    · right
      obtain ⟨b, off, spot⟩ := a
      have hspot : spot = none := by simpa [Addr.add] using World.cell?_spot (hcell 0 (by omega))
      subst hspot
      refine ⟨b, off, rfl, fun i hi => ?_⟩
      rw [hlen] at hi
      have h1 := hcell i (by omega)
      rw [add_litF] at h1
      rw [h1]
      have h2 : i < zs.length := by omega
      simp [h2, hi]
theorem exec_headI {op : Oper} {a : Act} {W : World} {y : Addr} {L cb m : Nat} (x h : Operand) (ho : op.op = .slice 57 x none (some h) none) (hx : a.eval x = .slice (some y) L cb) (hh : a.eval h = .int .i64 (m : Int)) (hm : m ≤ L) (hL : L ≤ cb) (hc : cb ≤ maxLen) :
    (execOp a.eval op).run Try.prog W = .ok (.value (.slice (some y) m cb)) W := by
  have h1 : (m : Int) ≤ (cb : Int) := by omega
  unfold maxLen at hc
  unfold execOp
  simp only [ho, hx, hh, Option.map]
  go_simp
theorem exec_tailI {b off L cb m : Nat} (hm : m ≤ L) (hL : L ≤ cb) (hc : cb ≤ maxLen) :
    ∃ ab' : Option Addr, (∀ {op : Oper} {a : Act} {W : World} (x h : Operand), op.op = .slice 57 x (some h) none none → a.eval x = .slice (some ⟨b, off, none⟩) L cb → a.eval h = .int .i64 (m : Int) → (execOp a.eval op).run Try.prog W = .ok (.value (.slice ab' (L - m) (cb - m))) W) ∧
      ∀ (w : World) (xs : List Value), RdE w (.slice (some ⟨b, off, none⟩) L cb) 1 L xs → RdE w (.slice ab' (L - m) (cb - m)) 1 (L - m) (xs.drop m) := by
  have h1 : (m : Int) ≤ (L : Int) := by omega
  have h2 : (L : Int) ≤ (cb : Int) := by omega
  unfold maxLen at hc
  by_cases hcm : cb = m
  · refine ⟨some ⟨b, off, none⟩, fun x h ho hx hh => ?_, fun w xs hr => ?_⟩
    · unfold execOp
      simp only [ho, hx, hh, Option.map]
      go_simp
    · have := hr.drop hm
      rw [if_pos hcm, Nat.mul_one] at this
      exact this
  · refine ⟨some ⟨b, off + m, none⟩, fun x h ho hx hh => ?_, fun w xs hr => ?_⟩
    · unfold execOp
      simp only [ho, hx, hh, Option.map]
      go_simp
    · have := hr.drop hm
      rw [if_neg hcm, Nat.mul_one] at this
      exact this
end Go.Proofs.Ytkljklfejaojaaa
