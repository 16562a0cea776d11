/- Packets that come in: what a law's argument of this kind is. -/
import Derived.Test.YtonnngndknoljaaRef18a
import Derived.Test.YtonnngndknoljaaChecked
import Derived.WalkKit
import Derived.Deep.Slices
import Derived.Deep.Strs
import Derived.OpenShut
import Derived.ChangeSlices
import Derived.ChangeSame
namespace Go.Proofs.Ytonnngndknoljaa
open Go.ChangeShapes Go.WideShapes Go.ChangeAt Go.RowKit
set_option linter.unusedSimpArgs false
set_option linter.unusedVariables false

/-- A slice of bytes that came in. -/
theorem rdB18_open {H : Type} {enc : TypeId × Value → H} {P : Program} {W : World} {base fuel : Nat} {spare : Nat → Bool} {held : Bool} {t e : TypeId} {v : Value} {x : DataW H × List MemPlace} (ht : P.underlying t = some (.slice e)) (he : P.underlying e = some (.int .u8)) (hc : P.cellsOf e = 1)
    (h : DataW.trod enc P W base spare held fuel t [v] = some x) : ∃ l, Rd W v l := by
  rcases open_ints ht he hc h with ⟨hcs, _⟩ | ⟨a, len, cap, zs, hcs, _, hl, hm, hz, _, hcell, hwz⟩
  · simp at hcs
    subst hcs
    exact ⟨[], Rd.nil W⟩
  · simp at hcs
    subst hcs
    have hzl : len ≤ zs.length := by rw [hz]; split <;> omega
    have hlen : ((zs.take len).map fun n => UInt8.ofNat n.toNat).length = len := by simp; omega
    refine ⟨(zs.take len).map fun n => UInt8.ofNat n.toNat, _, cap, by rw [hlen], by rw [hlen]; exact hl, hm, (fun h => by cases h), ?_⟩
    by_cases h0 : len = 0
    · left; exact List.eq_nil_of_length_eq_zero (by rw [hlen]; exact h0)
    · right
      obtain ⟨b, off, spot⟩ := a
      have hspot : spot = none := by simpa [Addr.add] using World.cell?_spot (hcell 0 (by omega))
      subst hspot
      refine ⟨b, off, rfl, fun i hi => ?_⟩
      rw [hlen] at hi
      have h1 := hcell i (by omega)
      have hplain : (⟨b, off, none⟩ : Addr).add i = ⟨b, off + i, none⟩ := by unfold Addr.add; split <;> simp_all
      rw [hplain] at h1
      rw [h1]
      have h2 : i < zs.length := by omega
      have h3 := wf_u8 (hwz zs[i] (List.getElem_mem h2))
      congr 2
      simp only [List.getD_eq_getElem?_getD, List.getElem?_map, List.getElem?_take, hi, if_true, List.getElem?_eq_getElem h2, Option.map_some, Option.getD_some, UInt8.toNat_ofNat']
      omega

theorem array9 {α : Type} {cs : Array α} (h : cs.size = 9) : ∃ c0 c1 c2 c3 c4 c5 c6 c7 c8, cs = #[c0, c1, c2, c3, c4, c5, c6, c7, c8] := by
  obtain ⟨l⟩ := cs
  match l, h with
  | [c0, c1, c2, c3, c4, c5, c6, c7, c8], _ => exact ⟨c0, c1, c2, c3, c4, c5, c6, c7, c8, rfl⟩

set_option maxRecDepth 100000 in
set_option maxHeartbeats 1000000 in
theorem pk_open {H : Type} {enc : TypeId × Value → H} {W : World} {r : Reach} {b0 base : Nat} {spare : Nat → Bool} {held : Bool} {v : Value} {d : DataW H} {pl : List MemPlace} (hv : Value.okWide Try.prog W r b0 26 v) (h : DataW.Trod enc Try.prog W base spare held 26 v d pl) :
    ∃ (p : Pkt) (vm vb : Value), v = .agg (pkC p vm vb).toArray ∧ PkR W p vm vb ∧ PkW p := by
  obtain ⟨cs, rfl, hsz⟩ := okWide_struct Try.underlying26 hv
  have k0 : Try.prog.cellsOf 26 = 9 := by kernel_rfl
  rw [k0] at hsz
  obtain ⟨c0, c1, c2, c3, c4, c5, c6, c7, c8, rfl⟩ := array9 hsz
  obtain ⟨fuel, hf⟩ := h
  obtain ⟨xs, n, -, -, hl, hlen, hx⟩ := DataW.trod_struct Try.underlying26 hf
  have k1 : Try.prog.cellsOf 3 = 1 := by kernel_rfl
  have k2 : Try.prog.cellsOf 22 = 1 := by kernel_rfl
  have k3 : Try.prog.cellsOf 24 = 1 := by kernel_rfl
  have k4 : Try.prog.cellsOf 23 = 1 := by kernel_rfl
  have k5 : Try.prog.cellsOf 5 = 1 := by kernel_rfl
  match xs, hlen, hx with
  | [y0, y1, y2, y3, y4, y5, y6, y7, y8], _, hx =>
    have h0 : DataW.trod enc Try.prog W base spare held n 3 [c0] = some y0 := by simpa [Value.cells, k1] using hx 0 _ rfl
    have h1 : DataW.trod enc Try.prog W base spare held n 22 [c1] = some y1 := by simpa [Value.cells, k2] using hx 1 _ rfl
    have h2 : DataW.trod enc Try.prog W base spare held n 22 [c2] = some y2 := by simpa [Value.cells, k2] using hx 2 _ rfl
    have h3 : DataW.trod enc Try.prog W base spare held n 3 [c3] = some y3 := by simpa [Value.cells, k1] using hx 3 _ rfl
    have h4 : DataW.trod enc Try.prog W base spare held n 3 [c4] = some y4 := by simpa [Value.cells, k1] using hx 4 _ rfl
    have h5 : DataW.trod enc Try.prog W base spare held n 3 [c5] = some y5 := by simpa [Value.cells, k1] using hx 5 _ rfl
    have h6 : DataW.trod enc Try.prog W base spare held n 23 [c6] = some y6 := by simpa [Value.cells, k4] using hx 6 _ rfl
    have h7 : DataW.trod enc Try.prog W base spare held n 24 [c7] = some y7 := by simpa [Value.cells, k3] using hx 7 _ rfl
    have h8 : DataW.trod enc Try.prog W base spare held n 23 [c8] = some y8 := by simpa [Value.cells, k4] using hx 8 _ rfl
    clear hx hf hv hsz hl
    obtain ⟨z0, e0, -, w0⟩ := DataW.trod_int Try.underlying3 h0
    obtain ⟨z1, e1, -, w1⟩ := DataW.trod_int Try.underlying22 h1
    obtain ⟨z2, e2, -, w2⟩ := DataW.trod_int Try.underlying22 h2
    obtain ⟨z3, e3, -, w3⟩ := DataW.trod_int Try.underlying3 h3
    obtain ⟨z4, e4, -, w4⟩ := DataW.trod_int Try.underlying3 h4
    obtain ⟨z5, e5, -, w5⟩ := DataW.trod_int Try.underlying3 h5
    obtain ⟨z7, e7, -, w7⟩ := DataW.trod_int Try.underlying24 h7
    simp at e0 e1 e2 e3 e4 e5 e7
    subst e0 e1 e2 e3 e4 e5 e7
    obtain ⟨lm, hm⟩ := rdB18_open Try.underlying23 Try.underlying5 k5 h6
    obtain ⟨lb, hb⟩ := rdB18_open Try.underlying23 Try.underlying5 k5 h8
    have g1 := bounds_u32 w1
    have g2 := bounds_u32 w2
    have g7 := bounds_u64 w7
    have g0 : -9223372036854775808 ≤ z0 ∧ z0 ≤ 9223372036854775807 := by have := bounds_i64 w0; omega
    have g3 : -9223372036854775808 ≤ z3 ∧ z3 ≤ 9223372036854775807 := by have := bounds_i64 w3; omega
    have g4 : -9223372036854775808 ≤ z4 ∧ z4 ≤ 9223372036854775807 := by have := bounds_i64 w4; omega
    have g5 : -9223372036854775808 ≤ z5 ∧ z5 ≤ 9223372036854775807 := by have := bounds_i64 w5; omega
    refine ⟨⟨z0, z1.toNat, z2.toNat, z3, z4, z5, lm, z7.toNat, lb⟩, c6, c8, ?_, ⟨hm, hb⟩, ⟨g0, ?_, ?_, g3, g4, g5, ?_⟩⟩
    · unfold pkC
      rw [show ((z1.toNat : Nat) : Int) = z1 by omega, show ((z2.toNat : Nat) : Int) = z2 by omega, show ((z7.toNat : Nat) : Int) = z7 by omega]
    · show z1.toNat < _
      omega
    · show z2.toNat < _
      omega
    · show z7.toNat < _
      omega
end Go.Proofs.Ytonnngndknoljaa
