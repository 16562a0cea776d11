/- Small entries: plain mathematics. No program's text is named. -/
import Derived.Test.YtkljklfejaojaaaFgMath
namespace Go.Proofs.Ytkljklfejaojaaa
set_option linter.unusedSimpArgs false
set_option linter.unusedVariables false

/-- Entries are small. -/
structure EntS (e : Ent) : Prop where
  n : e.parts.length ≤ 64
  t : ∀ x ∈ e.parts, x.length ≤ 1024
  p : e.peer.length ≤ 1000
  b : e.born < 18446744073709551616
def EnS (l : List Ent) : Prop := ∀ e ∈ l, EntS e
theorem EnS.at {l : List Ent} (h : EnS l) {k : Nat} (hk : k < l.length) : EntS (l.getD k noE) := by
  have := h l[k] (List.getElem_mem hk)
  simpa [hk] using this
theorem sum_leE {l : List Nat} {m : Nat} (h : ∀ x ∈ l, x ≤ m) : l.sum ≤ l.length * m := by
  induction l with
  | nil => simp
  | cons x l ih =>
    have h1 := h x (List.mem_cons_self ..)
    have h2 := ih fun y hy => h y (List.mem_cons_of_mem _ hy)
    rw [List.sum_cons, List.length_cons, Nat.add_mul]
    omega
theorem szE_le {e : Ent} (h : EntS e) : szE e ≤ 65536 := by
  have h1 := sum_leE (l := e.parts.map List.length) (m := 1024) fun x hx => by
    obtain ⟨y, hy, rfl⟩ := List.mem_map.1 hx
    exact h.t y hy
  rw [List.length_map] at h1
  have := h.n
  unfold szE
  omega
theorem ttB_le {l : List Ent} (h : EnS l) : ttB l ≤ l.length * 65536 := by
  have := sum_leE (l := l.map szE) (m := 65536) fun x hx => by
    obtain ⟨y, hy, rfl⟩ := List.mem_map.1 hx
    exact szE_le (h y hy)
  rwa [List.length_map] at this
theorem hdB_le {l : List Ent} (h : EnS l) (p : List UInt8) : hdB l p ≤ l.length * 65536 := by
  have := sum_leE (l := l.map fun e => if e.peer = p then szE e else 0) (m := 65536) fun x hx => by
    obtain ⟨y, hy, rfl⟩ := List.mem_map.1 hx
    have := szE_le (h y hy)
    split <;> omega
  rwa [List.length_map] at this
theorem sum_take {α : Type _} (f : α → Nat) (d : α) (l : List α) (k : Nat) (h : k < l.length) : ((l.take (k + 1)).map f).sum = ((l.take k).map f).sum + f (l.getD k d) := by
  rw [List.take_succ_eq_append_getElem h, List.map_append, List.sum_append]
  simp [h]
end Go.Proofs.Ytkljklfejaojaaa
