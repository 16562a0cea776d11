/- Scripts of calls that come in: what a law's argument of this kind is. -/
import Derived.Test.YtkljklfejaojaaaMem
import Derived.Test.YtkljklfejaojaaaChecked
import Derived.WalkKit
import Derived.Deep.Slices
import Derived.Deep.Strs
import Derived.OpenShut
import Derived.ChangeSlices
import Derived.ChangeSame
namespace Go.Proofs.Ytkljklfejaojaaa
open Go.ChangeShapes Go.WideShapes Go.ChangeAt Go.RowKit
set_option linter.unusedSimpArgs false
set_option linter.unusedVariables false

/-- A call, raw. -/
structure Ac where
  kind : Int
  peer : Int
  msg : Int
  part : Int
  parts : Int
  size : Int
  fill : UInt8
  now : Nat
def acL (q : Ac) : List Value := [.int .i64 q.kind, .int .i64 q.peer, .int .i64 q.msg, .int .i64 q.part, .int .i64 q.parts, .int .i64 q.size, .int .u8 (q.fill.toNat : Int), .int .u64 (q.now : Int)]
def AcF (w : World) (v : Value) (ks : List Ac) : Prop :=
  ∃ a cap, v = .slice a ks.length cap ∧ ks.length ≤ cap ∧ cap ≤ maxLen ∧ (ks = [] ∨ ∃ b off, a = some ⟨b, off, none⟩ ∧ ∀ k (h : k < ks.length), w.rangeAt b (off + k * 8) (acL ks[k]))
theorem range_kept {w w' : World} {b o : Nat} {cs : List Value} (h : w.rangeAt b o cs) (hb : Below w.heap.size w w') : w'.rangeAt b o cs := by
  intro j v hv
  have := h j v hv
  rw [hb.cell (World.block_lt_of_cell? _ _ this)]
  exact this
theorem AcF.kept {w w' : World} {v : Value} {ks : List Ac} (h : AcF w v ks) (hb : Below w.heap.size w w') : AcF w' v ks := by
  obtain ⟨a, cap, e, h1, h2, h3⟩ := h
  refine ⟨a, cap, e, h1, h2, h3.imp id ?_⟩
  rintro ⟨b, off, e2, hc⟩
  exact ⟨b, off, e2, fun k hk => range_kept (hc k hk) hb⟩
theorem AcF.at {w : World} {a : Option Addr} {n c : Nat} {ks : List Ac} (h : AcF w (.slice a n c) ks) {k : Nat} (hk : k < ks.length) : ∃ b off, a = some ⟨b, off, none⟩ ∧ w.rangeAt b (off + k * 8) (acL ks[k]) := by
  obtain ⟨a', c', e, h1, h2, h3⟩ := h
  simp only [Value.slice.injEq] at e
  obtain ⟨rfl, -, -⟩ := e
  rcases h3 with rfl | ⟨b, off, rfl, hc⟩
  · simp at hk
  · exact ⟨b, off, rfl, hc k hk⟩
theorem add_litF (b off i : Nat) : (⟨b, off, none⟩ : Addr).add i = ⟨b, off + i, none⟩ := by unfold Addr.add; split <;> simp_all
theorem u8_of {a : Int} (h : (Lit.int .u8 a).wf = true) : ∃ x : UInt8, a = (x.toNat : Int) := by
  have h2 : 0 ≤ a ∧ a < 256 := by
    simp [Lit.wf, IntKind.min, IntKind.max, IntKind.bits, IntKind.signed] at h
    omega
  refine ⟨UInt8.ofNat a.toNat, ?_⟩
  rw [UInt8.toNat_ofNat']
  omega
theorem u64_of {a : Int} (h : (Lit.int .u64 a).wf = true) : ∃ n : Nat, a = (n : Int) ∧ n < 18446744073709551616 := by
  have h2 : 0 ≤ a ∧ a < 18446744073709551616 := by
    simp [Lit.wf, IntKind.min, IntKind.max, IntKind.bits, IntKind.signed] at h
    omega
  exact ⟨a.toNat, by omega, by omega⟩

set_option maxRecDepth 100000 in
set_option maxHeartbeats 1000000 in
theorem acF_open {H : Type} {enc : TypeId × Value → H} {W : World} {base fuel : Nat} {spare : Nat → Bool} {held : Bool} {v : Value} {x : DataW H × List MemPlace} (h : DataW.trod enc Try.prog W base spare held fuel 33 [v] = some x) :
    ∃ ks, AcF W v ks ∧ ∀ q ∈ ks, q.now < 18446744073709551616 := by
  rcases Deep.open_slice Try.underlying33 h with ⟨e, -⟩ | ⟨a, len, cap, mm, n2, D, Pl, e, -, hl, hm, hmm, -, hc⟩
  · simp at e
    subst e
    exact ⟨[], ⟨none, 0, rfl, Nat.le_refl _, Nat.zero_le _, .inl rfl⟩, by simp⟩
  · simp at e
    subst e
    have hlm : len ≤ mm := by rw [hmm]; split <;> omega
    have k8 : Try.prog.cellsOf 43 = 8 := by kernel_rfl
    have k1 : Try.prog.cellsOf 3 = 1 := by kernel_rfl
    have k2 : Try.prog.cellsOf 5 = 1 := by kernel_rfl
    have k4 : Try.prog.cellsOf 32 = 1 := by kernel_rfl
    rw [k8] at hc
    have hall : ∀ i : Nat, ∃ q : Ac, i < len → (∀ j u, (acL q)[j]? = some u → W.cell? ((a.add (i * 8)).add j) = some u) ∧ q.now < 18446744073709551616 := fun i => by
      by_cases hi : i < len
      · obtain ⟨cs', h1, h2⟩ := hc i (by omega)
        obtain ⟨_, hlen, hcell⟩ := World.cells?_some h1
        obtain ⟨xs, n, -, -, hxl, hxn, hx⟩ := DataW.trod_struct Try.underlying43 h2
        match cs', hlen, xs, hxn, hx with
        | [v0, v1, v2, v3, v4, v5, v6, v7], _, [y0, y1, y2, y3, y4, y5, y6, y7], _, hx =>
          have g0 : DataW.trod enc Try.prog W base spare held n 3 [v0] = some y0 := by simpa [Value.cells, k1] using hx 0 _ rfl
          have g1 : DataW.trod enc Try.prog W base spare held n 3 [v1] = some y1 := by simpa [Value.cells, k1] using hx 1 _ rfl
          have g2 : DataW.trod enc Try.prog W base spare held n 3 [v2] = some y2 := by simpa [Value.cells, k1] using hx 2 _ rfl
          have g3 : DataW.trod enc Try.prog W base spare held n 3 [v3] = some y3 := by simpa [Value.cells, k1] using hx 3 _ rfl
          have g4 : DataW.trod enc Try.prog W base spare held n 3 [v4] = some y4 := by simpa [Value.cells, k1] using hx 4 _ rfl
          have g5 : DataW.trod enc Try.prog W base spare held n 3 [v5] = some y5 := by simpa [Value.cells, k1] using hx 5 _ rfl
          have g6 : DataW.trod enc Try.prog W base spare held n 5 [v6] = some y6 := by simpa [Value.cells, k2] using hx 6 _ rfl
          have g7 : DataW.trod enc Try.prog W base spare held n 32 [v7] = some y7 := by simpa [Value.cells, k4] using hx 7 _ rfl
          obtain ⟨z0, e0, -, -⟩ := DataW.trod_int Try.underlying3 g0
          obtain ⟨z1, e1, -, -⟩ := DataW.trod_int Try.underlying3 g1
          obtain ⟨z2, e2, -, -⟩ := DataW.trod_int Try.underlying3 g2
          obtain ⟨z3, e3, -, -⟩ := DataW.trod_int Try.underlying3 g3
          obtain ⟨z4, e4, -, -⟩ := DataW.trod_int Try.underlying3 g4
          obtain ⟨z5, e5, -, -⟩ := DataW.trod_int Try.underlying3 g5
          obtain ⟨z6, e6, -, w6⟩ := DataW.trod_int Try.underlying5 g6
          obtain ⟨z7, e7, -, w7⟩ := DataW.trod_int Try.underlying32 g7
          obtain ⟨f6, rfl⟩ := u8_of w6
          obtain ⟨f7, rfl, hf7⟩ := u64_of w7
          simp at e0 e1 e2 e3 e4 e5 e6 e7
          subst e0 e1 e2 e3 e4 e5 e6 e7
          refine ⟨⟨z0, z1, z2, z3, z4, z5, f6, f7⟩, fun _ => ⟨fun j u hj => ?_, hf7⟩⟩
          have hjl : j < 8 := by
            rcases Nat.lt_or_ge j 8 with h | h
            · exact h
            · rw [List.getElem?_eq_none (by simpa [acL] using h)] at hj
              cases hj
          have := hcell j (by simpa using hjl)
          rw [this]
          exact hj
      · exact ⟨⟨0, 0, 0, 0, 0, 0, 0, 0⟩, fun h => absurd h hi⟩
    obtain ⟨F, hF⟩ := Classical.axiomOfChoice hall
    refine ⟨(List.range len).map F, ⟨some a, cap, by simp, by simpa using hl, hm, ?_⟩, fun q hq => ?_⟩
    · by_cases h0 : len = 0
      · left
        simp [h0]
      · right
        obtain ⟨b, off, spot⟩ := a
        have hspot : spot = none := by
          have h1 := (hF 0 (by omega)).1 0 _ rfl
          simpa [Addr.add] using World.cell?_spot h1
        subst hspot
        refine ⟨b, off, rfl, fun k hk j u hj => ?_⟩
        have hk' : k < len := by simpa using hk
        have g := (hF k hk').1 j u (by simpa using hj)
        rw [add_litF, add_litF] at g
        exact g
    · obtain ⟨k, hk, rfl⟩ := List.mem_map.1 hq
      exact (hF k (List.mem_range.1 hk)).2
theorem i64_le {a : Int} (h : (Lit.int .i64 a).wf = true) : a ≤ 9223372036854775807 := by
  simp [Lit.wf, IntKind.min, IntKind.max, IntKind.bits, IntKind.signed] at h
  omega
end Go.Proofs.Ytkljklfejaojaaa
