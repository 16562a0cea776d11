/- Scripts of steps, and rows of rows of bytes, that come in: what a law's arguments of these kinds are. -/
import Derived.Test.YtliiofjcghdjoaaDoorBase
import Derived.Test.YtliiofjcghdjoaaDoorChecked
import Derived.WalkKit
import Derived.Deep.Slices
import Derived.Deep.Strs
import Derived.OpenShut
import Derived.ChangeSlices
import Derived.ChangeSame
namespace Go.Proofs.YtliiofjcghdjoaaDoor
open Go.ChangeShapes Go.WideShapes Go.ChangeAt Go.RowKit
set_option linter.unusedSimpArgs false
set_option linter.unusedVariables false

/-- A slice of bytes that came in. -/
theorem rdB_open {H : Type} {enc : TypeId × Value → H} {P : Program} {W : World} {base fuel : Nat} {spare : Nat → Bool} {held : Bool} {t e : TypeId} {v : Value} {x : DataW H × List MemPlace} (ht : P.underlying t = some (.slice e)) (he : P.underlying e = some (.int .u8)) (hc : P.cellsOf e = 1)
    (h : DataW.trod enc P W base spare held fuel t [v] = some x) : ∃ l, Rd W v l := by
  rcases open_ints ht he hc h with ⟨hcs, _⟩ | ⟨a, len, cap, zs, hcs, _, hl, hm, hz, _, hcell, hwz⟩
  · simp at hcs
    subst hcs
    exact ⟨[], Rd.nil W⟩
  · simp at hcs
    subst hcs
    have hzl : len ≤ zs.length := by rw [hz]; split <;> omega
    have hlen : ((zs.take len).map fun n => UInt8.ofNat n.toNat).length = len := by simp; omega
    refine ⟨(zs.take len).map fun n => UInt8.ofNat n.toNat, _, cap, by rw [hlen], by rw [hlen]; exact hl, hm, (fun h => by cases h), ?_⟩
    by_cases h0 : len = 0
    · left; exact List.eq_nil_of_length_eq_zero (by rw [hlen]; exact h0)
    · right
      obtain ⟨b, off, spot⟩ := a
      have hspot : spot = none := by simpa [Addr.add] using World.cell?_spot (hcell 0 (by omega))
      subst hspot
      refine ⟨b, off, rfl, fun i hi => ?_⟩
      rw [hlen] at hi
      have h1 := hcell i (by omega)
      have hplain : (⟨b, off, none⟩ : Addr).add i = ⟨b, off + i, none⟩ := by unfold Addr.add; split <;> simp_all
      rw [hplain] at h1
      rw [h1]
      have h2 : i < zs.length := by omega
      have h3 := wf_u8 (hwz zs[i] (List.getElem_mem h2))
      congr 2
      simp only [List.getD_eq_getElem?_getD, List.getElem?_map, List.getElem?_take, hi, if_true, List.getElem?_eq_getElem h2, Option.map_some, Option.getD_some, UInt8.toNat_ofNat']
      omega

theorem nat_of64 {a : Int} (h : (Lit.int .u64 a).wf = true) : ∃ n : Nat, a = (n : Int) ∧ n < 18446744073709551616 := by
  have h2 : 0 ≤ a ∧ a < 18446744073709551616 := by
    simp [Lit.wf, IntKind.min, IntKind.max, IntKind.bits, IntKind.signed] at h
    omega
  exact ⟨a.toNat, by omega, by omega⟩
theorem str_size16 (l : List UInt8) : (⟨l.toArray⟩ : ByteArray).size = l.length := by simp [ByteArray.size]

/-- Steps, raw: what kind, bytes, a number. -/
abbrev Acs := List (Int × List UInt8 × Nat)
def AcR (w : World) (v : Value) (ks : Acs) : Prop :=
  ∃ a cap, v = .slice a ks.length cap ∧ ks.length ≤ cap ∧ cap ≤ maxLen ∧ (ks = [] ∨ ∃ b off, a = some ⟨b, off, none⟩ ∧ ∀ k (h : k < ks.length), ∃ vb, w.cell? ⟨b, off + 3 * k, none⟩ = some (.int .i64 ks[k].1) ∧ w.cell? ⟨b, off + (3 * k + 1), none⟩ = some vb ∧ w.cell? ⟨b, off + (3 * k + 2), none⟩ = some (.int .u64 (ks[k].2.2 : Int)) ∧ Rd w vb ks[k].2.1)
theorem AcR.kept {w w' : World} {v : Value} {ks : Acs} (h : AcR w v ks) (hb : Below w.heap.size w w') : AcR w' v ks := by
  obtain ⟨a, cap, e, h1, h2, h3⟩ := h
  refine ⟨a, cap, e, h1, h2, h3.imp id ?_⟩
  rintro ⟨b, off, e2, hc⟩
  refine ⟨b, off, e2, fun k hk => ?_⟩
  obtain ⟨vb, c1, c2, c3, c4⟩ := hc k hk
  refine ⟨vb, ?_, ?_, ?_, c4.kept hb⟩
  · rw [hb.cell (World.block_lt_of_cell? _ _ c1)]
    exact c1
  · rw [hb.cell (World.block_lt_of_cell? _ _ c2)]
    exact c2
  · rw [hb.cell (World.block_lt_of_cell? _ _ c3)]
    exact c3
theorem add_lit3 (b off i : Nat) : (⟨b, off, none⟩ : Addr).add i = ⟨b, off + i, none⟩ := by unfold Addr.add; split <;> simp_all
theorem add_three {b off i j : Nat} : ((⟨b, off, none⟩ : Addr).add (i * 3)).add j = ⟨b, off + (3 * i + j), none⟩ := by
  rw [add_lit3, add_lit3, Nat.mul_comm i 3, Nat.add_assoc]

/-- Rows of bytes that came in. -/
theorem rows_open {H : Type} {enc : TypeId × Value → H} {W : World} {base fuel : Nat} {spare : Nat → Bool} {held : Bool} {v : Value} {x : DataW H × List MemPlace} (h : DataW.trod enc Tryd.prog W base spare held fuel 52 [v] = some x) :
    ∃ vs ls, RdL W v vs ls := by
  have k2 : Tryd.prog.cellsOf 40 = 1 := by kernel_rfl
  rcases Deep.open_slice1 Tryd.underlying52 k2 h with ⟨e, -⟩ | ⟨a, len, cap, mm, n2, V, D, Pl, e, -, hl, hm, hmm, -, hc⟩
  · simp at e
    subst e
    exact ⟨[], [], ⟨none, 0, rfl, by simp, by simp, .inl rfl⟩, rfl, fun i hi => by simp at hi⟩
  · simp at e
    subst e
    have hlm : len ≤ mm := by rw [hmm]; split <;> omega
    have hrow : ∀ r, r < len → ∃ l : List UInt8, Rd W (V r) l := fun r hr0 => rdB_open Tryd.underlying40 Tryd.underlying5 (by kernel_rfl) (hc r (by omega)).2
    obtain ⟨f, hf⟩ := Go.Deep.choose_lt hrow
    refine ⟨(List.range len).map V, (List.range len).map f, ⟨some a, cap, by simp, by simpa using hl, hm, ?_⟩, by simp, fun i hi => ?_⟩
    · by_cases h0 : len = 0
      · left; subst h0; simp
      · right
        obtain ⟨b, off, spot⟩ := a
        have hspot : spot = none := by simpa [Addr.add] using World.cell?_spot (hc 0 (by omega)).1
        subst hspot
        refine ⟨b, off, rfl, fun i hi => ?_⟩
        have hi' : i < len := by simpa using hi
        have h1 := (hc i (by omega)).1
        have hplain : (⟨b, off, none⟩ : Addr).add i = ⟨b, off + i, none⟩ := by unfold Addr.add; split <;> simp_all
        rw [hplain] at h1
        rw [h1]
        simp [hi']
    · have hi' : i < len := by simpa using hi
      simpa [hi'] using hf i hi'
end Go.Proofs.YtliiofjcghdjoaaDoor
