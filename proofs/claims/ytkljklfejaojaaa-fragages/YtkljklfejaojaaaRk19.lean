/- What the reference of layer 19 holds stays as it was while a buffer's call writes. -/
import Derived.Test.YtkljklfejaojaaaAw19
import Derived.Test.YtkljklfejaojaaaRef19i
namespace Go.Proofs.Ytkljklfejaojaaa
open Go.ChangeShapes Go.WideShapes Go.ChangeAt Go.RowKit
set_option linter.unusedSimpArgs false
set_option linter.unusedVariables false

theorem RdC.kp {w w' : World} {v : Value} {ls : List (List UInt8)} (h : RdC w v (ls.map sv)) (k : Kp w w') : RdC w' v (ls.map sv) := by
  obtain ⟨a, c, e1, h2, h3, h4, h5⟩ := h
  refine ⟨a, c, e1, h2, h3, h4, h5.imp id ?_⟩
  rintro ⟨b, off, e2, hc⟩
  refine ⟨b, off, e2, fun i hi => ?_⟩
  have h6 := hc i hi
  have h7 : (ls.map sv)[i]? = some (sv (ls[i]'(by simpa using hi))) := by simp [show i < ls.length by simpa using hi]
  rw [h7] at h6 ⊢
  exact k.str h6
theorem EnR.kp {w w' : World} {v : Value} {l : List Ent} (h : EnR w v l) (k : Kp w w') : EnR w' v l := by
  obtain ⟨vs, h1, ⟨hl, a, c, e1, h2, h3, h5⟩, h4⟩ := h.form
  refine ⟨vs, h1, ⟨hl, a, c, e1, h2, h3, h5.imp id ?_⟩, fun j hj => (h4 j hj).kp k⟩
  rintro ⟨b, off, e2, hc⟩
  refine ⟨b, off, e2, fun i hi => ?_⟩
  have hil : i < l.length * 4 := by rw [hl] at hi; exact hi
  obtain ⟨q, j, rfl, hj⟩ : ∃ q j, i = q * 4 + j ∧ j < 4 := ⟨i / 4, i % 4, by omega, by omega⟩
  have hq : q < l.length := by omega
  have h0 := hc (q * 4 + 0) (by rw [hl]; omega)
  rw [enC_at h1 hq (by decide)] at h0
  have h0' : w.cell? ⟨b, off + q * 4, none⟩ = some (.string ⟨(l.getD q noE).peer.toArray⟩) := h0
  have h6 := hc (q * 4 + j) hi
  rw [enC_at h1 hq hj] at h6 ⊢
  match j, hj with
  | 0, _ => exact k.str h6
  | 1, _ =>
    rcases k _ _ _ h6 with h | ⟨-, h⟩ | ⟨⟨_, _, _, h⟩, -⟩
    · exact h
    · exact absurd h0' (h (off + q * 4) _ (by omega))
    · cases h
  | 2, _ =>
    rcases k _ _ _ h6 with h | ⟨⟨_, h⟩, -⟩ | ⟨⟨_, _, _, h⟩, -⟩
    · exact h
    · cases h
    · cases h
  | 3, _ =>
    have h7 : w.cell? ⟨b, off + (q * 4 + 3), none⟩ = some (vs.getD q undef) := h6
    rcases k _ _ _ h7 with h | ⟨⟨n, h⟩, -⟩ | ⟨-, h⟩
    · exact h
    · exfalso
      obtain ⟨a', c', e, -⟩ := h4 q hq
      rw [e] at h
      cases h
    · exact absurd h0' (h (off + q * 4) _ (by omega))
/-- A byte is written: texts and records stay. -/
theorem EnR.set8 {w : World} {v : Value} {l : List Ent} {g j : Nat} {x : Int} {u : Value} (h : EnR w v l) (hc8 : w.cell? ⟨g, j, none⟩ = some (.int .u8 x)) : EnR (w.setCell ⟨g, j, none⟩ u) v l := by
  have key : ∀ b o y, w.cell? ⟨b, o, none⟩ = some y → (∀ x, y ≠ .int .u8 x) → (w.setCell ⟨g, j, none⟩ u).cell? ⟨b, o, none⟩ = some y := by
    intro b o y hy hn
    by_cases e : b = g ∧ o = j
    · obtain ⟨rfl, rfl⟩ := e
      rw [hc8] at hy
      exact absurd (Option.some.inj hy).symm (hn x)
    · rw [World.cell?_setCell_other _ _ _ _ (by simp; intro e1 e2; exact e ⟨e1.symm, e2.symm⟩)]
      exact hy
  obtain ⟨vs, h1, ⟨hl, a, c, e1, h2, h3, h5⟩, h4⟩ := h.form
  refine ⟨vs, h1, ⟨hl, a, c, e1, h2, h3, h5.imp id ?_⟩, fun q hq => ?_⟩
  · rintro ⟨b, off, e2, hc⟩
    refine ⟨b, off, e2, fun i hi => ?_⟩
    have hil : i < l.length * 4 := by rw [hl] at hi; exact hi
    obtain ⟨q, k, rfl, hk⟩ : ∃ q k, i = q * 4 + k ∧ k < 4 := ⟨i / 4, i % 4, by omega, by omega⟩
    have hq : q < l.length := by omega
    have h6 := hc (q * 4 + k) hi
    rw [enC_at h1 hq hk] at h6 ⊢
    match k, hk with
    | 0, _ => exact key _ _ _ h6 (fun x e => by cases e)
    | 1, _ => exact key _ _ _ h6 (fun x e => by cases e)
    | 2, _ => exact key _ _ _ h6 (fun x e => by cases e)
    | 3, _ =>
      obtain ⟨a', c', e, -⟩ := h4 q hq
      have h7 : w.cell? ⟨b, off + (q * 4 + 3), none⟩ = some (vs.getD q undef) := h6
      exact key _ _ _ h7 (fun x e2 => by rw [e] at e2; cases e2)
  · obtain ⟨a', c', e, k2, k3, k4, k5⟩ := h4 q hq
    refine ⟨a', c', e, k2, k3, k4, k5.imp id ?_⟩
    rintro ⟨b, off, e2, hc⟩
    refine ⟨b, off, e2, fun i hi => ?_⟩
    have h6 := hc i hi
    have hi' : i < ((l.getD q noE).parts).length := by simpa using hi
    have h7 : ((l.getD q noE).parts.map sv)[i]? = some (sv ((l.getD q noE).parts[i])) := by
      rw [List.getElem?_map, List.getElem?_eq_getElem hi']
      rfl
    rw [h7] at h6 ⊢
    exact key _ _ _ h6 (fun x e => by cases e)
/-- Bytes do not lie in a block that holds none. -/
theorem Rd.pastF {w w' : World} {v : Value} {l : List UInt8} {g : Nat} {ty : TypeId} {cs : List Value} (h : Rd w v l) (hb : BlkAt g ty cs w) (hn : ∀ (j : Nat) (x : Int), cs[j]? ≠ some (Value.int .u8 x)) (c : Chg (fun b => b = g) w w') : Rd w' v l := by
  obtain ⟨a, k, e1, h2, h3, h4, h5⟩ := h
  refine ⟨a, k, e1, h2, h3, h4, h5.imp id ?_⟩
  rintro ⟨b, off, e2, hc⟩
  refine ⟨b, off, e2, fun i hi => ?_⟩
  have h6 := hc i hi
  have hne : b ≠ g := by
    rintro rfl
    rw [hb.cell] at h6
    exact hn _ _ h6
  rw [World.cell?_of_block (w := w) (c.block b (World.block_lt_of_cell? _ _ h6) hne)]
  exact h6
theorem bfD_no8 (B : Bf) (a : Option Addr) (n c : Nat) : ∀ (j : Nat) (x : Int), (bfD B (.slice a n c))[j]? ≠ some (Value.int .u8 x) := by
  intro j x
  match j with
  | 0 => simp [bfD]
  | 1 => simp [bfD]
  | 2 => simp [bfD]
  | 3 => simp [bfD]
  | j + 4 => simp [bfD]
end Go.Proofs.Ytkljklfejaojaaa
