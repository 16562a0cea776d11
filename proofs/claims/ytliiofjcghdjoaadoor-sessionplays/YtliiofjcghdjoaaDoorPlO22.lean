/- Scripts of steps, and pairs of keys, that come in: what a law's arguments of these kinds are. -/
import Derived.Test.YtliiofjcghdjoaaDoorRlO
import Derived.Test.YtliiofjcghdjoaaDoorActO
import Derived.Test.YtliiofjcghdjoaaDoorSmt
import Derived.Test.YtliiofjcghdjoaaDoorBase
import Derived.Deep.MidRow
namespace Go.Proofs.YtliiofjcghdjoaaDoor
open Go.ChangeShapes Go.WideShapes Go.ChangeAt Go.RowKit
set_option linter.unusedSimpArgs false
set_option linter.unusedVariables false

/-- A step, raw. -/
structure As22 where
  kind : Int
  b : List UInt8
  n : Nat
  now : Nat
structure AcW (q : As22) : Prop where
  n : q.n < 18446744073709551616
  now : q.now < 18446744073709551616
def asL (q : As22) (vb : Value) : List Value := [.int .i64 q.kind, vb, .int .u64 (q.n : Int), .int .u64 (q.now : Int)]
def AcS (w : World) (v : Value) (ks : List As22) : Prop :=
  ∃ a cap, v = .slice a ks.length cap ∧ ks.length ≤ cap ∧ cap ≤ maxLen ∧ (ks = [] ∨ ∃ b off, a = some ⟨b, off, none⟩ ∧ ∀ k (h : k < ks.length), ∃ vb, w.rangeAt b (off + k * 4) (asL ks[k] vb) ∧ Rd w vb ks[k].b)
theorem range_kept22 {w w' : World} {b o : Nat} {cs : List Value} (h : w.rangeAt b o cs) (hb : Below w.heap.size w w') : w'.rangeAt b o cs := by
  intro j v hv
  have := h j v hv
  rw [hb.cell (World.block_lt_of_cell? _ _ this)]
  exact this
/-- A step in any later world. -/
theorem AcS.at {w : World} {a : Option Addr} {n c : Nat} {ks : List As22} (h : AcS w (.slice a n c) ks) {k : Nat} (hk : k < ks.length) : ∃ b off vb, a = some ⟨b, off, none⟩ ∧ ∀ W, Below w.heap.size w W → W.rangeAt b (off + k * 4) (asL ks[k] vb) ∧ Rd W vb ks[k].b := by
  obtain ⟨a', c', e, h1, h2, h3⟩ := h
  simp only [Value.slice.injEq] at e
  obtain ⟨rfl, -, -⟩ := e
  rcases h3 with rfl | ⟨b, off, rfl, hc⟩
  · simp at hk
  · obtain ⟨vb, h4, h5⟩ := hc k hk
    exact ⟨b, off, vb, rfl, fun W hW => ⟨range_kept22 h4 hW, h5.kept hW⟩⟩
theorem add_lit22 (b off i : Nat) : (⟨b, off, none⟩ : Addr).add i = ⟨b, off + i, none⟩ := by unfold Addr.add; split <;> simp_all

set_option maxRecDepth 100000 in
set_option maxHeartbeats 1000000 in
theorem acts22_open {H : Type} {enc : TypeId × Value → H} {W : World} {base fuel : Nat} {spare : Nat → Bool} {held : Bool} {v : Value} {x : DataW H × List MemPlace} (h : DataW.trod enc Tryd.prog W base spare held fuel 42 [v] = some x) :
    ∃ ks, AcS W v ks ∧ ∀ q ∈ ks, AcW q := by
  rcases Deep.open_slice Tryd.underlying42 h with ⟨e, -⟩ | ⟨a, len, cap, mm, n2, D, Pl, e, -, hl, hm, hmm, -, hc⟩
  · simp at e
    subst e
    exact ⟨[], ⟨none, 0, rfl, Nat.le_refl _, Nat.zero_le _, .inl rfl⟩, by simp⟩
  · simp at e
    subst e
    have hlm : len ≤ mm := by rw [hmm]; split <;> omega
    have k4 : Tryd.prog.cellsOf 54 = 4 := by kernel_rfl
    have k1 : Tryd.prog.cellsOf 3 = 1 := by kernel_rfl
    have k2 : Tryd.prog.cellsOf 40 = 1 := by kernel_rfl
    have k3 : Tryd.prog.cellsOf 22 = 1 := by kernel_rfl
    rw [k4] at hc
    have hall : ∀ i : Nat, ∃ q : As22, i < len → AcW q ∧ ∃ vb, (∀ j u, (asL q vb)[j]? = some u → W.cell? ((a.add (i * 4)).add j) = some u) ∧ Rd W vb q.b := fun i => by
      by_cases hi : i < len
      · obtain ⟨cs', h1, h2⟩ := hc i (by omega)
        obtain ⟨_, hlen, hcell⟩ := World.cells?_some h1
        obtain ⟨xs, n, -, -, hxl, hxn, hx⟩ := DataW.trod_struct Tryd.underlying54 h2
        match cs', hlen, xs, hxn, hx with
        | [v0, v1, v2, v3], _, [y0, y1, y2, y3], _, hx =>
          have g0 : DataW.trod enc Tryd.prog W base spare held n 3 [v0] = some y0 := by simpa [Value.cells, k1] using hx 0 _ rfl
          have g1 : DataW.trod enc Tryd.prog W base spare held n 40 [v1] = some y1 := by simpa [Value.cells, k2] using hx 1 _ rfl
          have g2 : DataW.trod enc Tryd.prog W base spare held n 22 [v2] = some y2 := by simpa [Value.cells, k3] using hx 2 _ rfl
          have g3 : DataW.trod enc Tryd.prog W base spare held n 22 [v3] = some y3 := by simpa [Value.cells, k3] using hx 3 _ rfl
          obtain ⟨z0, e0, -, -⟩ := DataW.trod_int Tryd.underlying3 g0
          obtain ⟨z2, e2, -, w2⟩ := DataW.trod_int Tryd.underlying22 g2
          obtain ⟨z3, e3, -, w3⟩ := DataW.trod_int Tryd.underlying22 g3
          obtain ⟨l, hr⟩ := rdB_open Tryd.underlying40 Tryd.underlying5 (by kernel_rfl) g1
          obtain ⟨f2, rfl, hf2⟩ := nat_of64 w2
          obtain ⟨f3, rfl, hf3⟩ := nat_of64 w3
          simp at e0 e2 e3
          subst e0 e2 e3
          refine ⟨⟨z0, l, f2, f3⟩, fun _ => ⟨⟨hf2, hf3⟩, v1, fun j u hj => ?_, hr⟩⟩
          have hjl : j < 4 := by
            rcases Nat.lt_or_ge j 4 with h | h
            · exact h
            · rw [List.getElem?_eq_none (by simpa [asL] using h)] at hj
              cases hj
          have := hcell j (by simpa using hjl)
          rw [this]
          exact hj
      · exact ⟨⟨0, [], 0, 0⟩, fun h => absurd h hi⟩
    obtain ⟨F, hF⟩ := Classical.axiomOfChoice hall
    refine ⟨(List.range len).map F, ⟨some a, cap, by simp, by simpa using hl, hm, ?_⟩, fun q hq => ?_⟩
    · by_cases h0 : len = 0
      · left
        simp [h0]
      · right
        obtain ⟨b, off, spot⟩ := a
        have hspot : spot = none := by
          obtain ⟨-, vb, h1, -⟩ := hF 0 (by omega)
          have h2 := h1 0 _ rfl
          simpa [Addr.add] using World.cell?_spot h2
        subst hspot
        refine ⟨b, off, rfl, fun k hk => ?_⟩
        have hk' : k < len := by simpa using hk
        obtain ⟨-, vb, h1, h2⟩ := hF k hk'
        refine ⟨vb, fun j u hj => ?_, by simpa using h2⟩
        have g := h1 j u (by simpa using hj)
        rw [add_lit22, add_lit22] at g
        exact g
    · obtain ⟨k, hk, rfl⟩ := List.mem_map.1 hq
      exact (hF k (List.mem_range.1 hk)).1
theorem array2_22 {α : Type} {cs : Array α} (h : cs.size = 2) : ∃ c0 c1, cs = #[c0, c1] := by
  obtain ⟨l⟩ := cs
  match l, h with
  | [c0, c1], _ => exact ⟨c0, c1, rfl⟩
set_option maxRecDepth 100000 in
set_option maxHeartbeats 1000000 in
theorem two_open {H : Type} {enc : TypeId × Value → H} {W : World} {r : Reach} {b0 base : Nat} {spare : Nat → Bool} {held : Bool} {v : Value} {d : DataW H} {pl : List MemPlace} (hv : Value.okWide Tryd.prog W r b0 41 v) (h : DataW.Trod enc Tryd.prog W base spare held 41 v d pl) :
    ∃ va vb la lb, v = .agg #[va, vb] ∧ Rd W va la ∧ Rd W vb lb := by
  obtain ⟨cs, rfl, hsz⟩ := okWide_arr Tryd.underlying41 hv
  have k0 : Tryd.prog.cellsOf 41 = 2 := by kernel_rfl
  have k2 : Tryd.prog.cellsOf 40 = 1 := by kernel_rfl
  rw [k0] at hsz
  obtain ⟨c0, c1, rfl⟩ := array2_22 hsz
  obtain ⟨fuel, hf⟩ := h
  obtain ⟨xs, m, -, -, -, hl, hx⟩ := DataW.trod_array Tryd.underlying41 hf
  match xs, hl, hx with
  | [y0, y1], _, hx =>
    have g0 : DataW.trod enc Tryd.prog W base spare held m 40 [c0] = some y0 := by simpa [Value.cells, k2] using hx 0 (by omega)
    have g1 : DataW.trod enc Tryd.prog W base spare held m 40 [c1] = some y1 := by simpa [Value.cells, k2] using hx 1 (by omega)
    obtain ⟨la, ha⟩ := rdB_open Tryd.underlying40 Tryd.underlying5 k2 g0
    obtain ⟨lb, hb⟩ := rdB_open Tryd.underlying40 Tryd.underlying5 k2 g1
    exact ⟨c0, c1, la, lb, rfl, ha, hb⟩
end Go.Proofs.YtliiofjcghdjoaaDoor
