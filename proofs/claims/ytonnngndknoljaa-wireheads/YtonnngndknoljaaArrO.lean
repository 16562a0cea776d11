/- Arrays of numbers that come in by value: what they are. No program's text is named. -/
import Derived.Test.YtonnngndknoljaaArr
import Derived.Test.YtonnngndknoljaaArrB
import Derived.Test.YtonnngndknoljaaFMath3
namespace Go.Proofs.Ytonnngndknoljaa
set_option linter.unusedSimpArgs false
open Go.ChangeShapes Go.WideShapes Go.ChangeAt Go.RowKit
set_option linter.unusedVariables false

theorem arr_ints {H : Type} {enc : TypeId × Value → H} {P : Program} {w : World} {base b0 : Nat} {spare : Nat → Bool} {held : Bool} {r : Reach} {t e : TypeId} {v : Value} {d : DataW H} {p : List MemPlace} {n : Nat} {k : IntKind}
    (ht : P.underlying t = some (.array n e)) (he : P.underlying e = some (.int k)) (ce : P.cellsOf e = 1) (ct : P.cellsOf t = n) (hv : Value.okWide P w r b0 t v) (h : DataW.Trod enc P w base spare held t v d p) :
    ∃ zs : List Int, zs.length = n ∧ v = .agg (zs.map (Value.int k)).toArray ∧ ∀ z ∈ zs, (Lit.int k z).wf = true := by
  obtain ⟨cs, rfl, hsz⟩ := okWide_arr ht hv
  rw [ct] at hsz
  obtain ⟨fuel, hf⟩ := h
  obtain ⟨xs, m, _, _, _, hl, hx⟩ := DataW.trod_array ht hf
  have key : ∀ i, i < n → ∃ z : Int, (Lit.int k z).wf = true ∧ cs[i]? = some (.int k z) := by
    intro i hi
    have h1 := hx i hi
    rw [ce, Nat.mul_one] at h1
    have h2 : xs[i]? = some xs[i] := List.getElem?_eq_getElem (by omega)
    rw [h2] at h1
    obtain ⟨z, hc, _, hw⟩ := DataW.trod_int he h1
    refine ⟨z, hw, ?_⟩
    have hi2 : i < cs.size := by omega
    simp only [Value.cells] at hc
    rw [List.drop_eq_getElem_cons (by simpa using hi2)] at hc
    simp at hc
    rw [Array.getElem?_eq_getElem hi2, hc]
  obtain ⟨F, hF⟩ : ∃ F : Nat → Int, ∀ i, i < n → (Lit.int k (F i)).wf = true ∧ cs[i]? = some (.int k (F i)) :=
    ⟨fun i => if h : i < n then Classical.choose (key i h) else 0, fun i hi => by
      dsimp only
      rw [dif_pos hi]
      exact Classical.choose_spec (key i hi)⟩
  refine ⟨(List.range n).map F, by simp, ?_, ?_⟩
  · congr 1
    apply Array.ext
    · simp [hsz]
    · intro i h1 h2
      have hi : i < n := by omega
      have h3 := (hF i hi).2
      rw [Array.getElem?_eq_getElem h1, Option.some.injEq] at h3
      rw [h3]
      simp
  · intro z hz
    obtain ⟨i, hi, rfl⟩ := List.mem_map.1 hz
    exact (hF i (List.mem_range.1 hi)).1
theorem el_open {H : Type} {enc : TypeId × Value → H} {P : Program} {w : World} {base b0 : Nat} {spare : Nat → Bool} {held : Bool} {r : Reach} {t e : TypeId} {v : Value} {d : DataW H} {p : List MemPlace}
    (ht : P.underlying t = some (.array 4 e)) (he : P.underlying e = some (.int .u64)) (ce : P.cellsOf e = 1) (ct : P.cellsOf t = 4) (hv : Value.okWide P w r b0 t v) (h : DataW.Trod enc P w base spare held t v d p) :
    ∃ l : List Nat, El4 l ∧ v = .agg ((nI l).map (Value.int .u64)).toArray := by
  obtain ⟨zs, hl, hv, hw⟩ := arr_ints ht he ce ct hv h
  have e1 : nI (zs.map Int.toNat) = zs := by
    refine List.ext_getElem (by simp [nI]) fun i h1 h2 => ?_
    have h3 := bounds_u64 (hw zs[i] (List.getElem_mem h2))
    simp [nI]
    omega
  refine ⟨zs.map Int.toNat, ⟨by simpa using hl, fun x hx => ?_⟩, by rw [e1]; exact hv⟩
  obtain ⟨z, hz, rfl⟩ := List.mem_map.1 hx
  have h3 := bounds_u64 (hw z hz)
  omega
theorem bytes_open {H : Type} {enc : TypeId × Value → H} {P : Program} {w : World} {base b0 : Nat} {spare : Nat → Bool} {held : Bool} {r : Reach} {t e : TypeId} {v : Value} {d : DataW H} {p : List MemPlace} {n : Nat}
    (ht : P.underlying t = some (.array n e)) (he : P.underlying e = some (.int .u8)) (ce : P.cellsOf e = 1) (ct : P.cellsOf t = n) (hv : Value.okWide P w r b0 t v) (h : DataW.Trod enc P w base spare held t v d p) :
    ∃ l : List UInt8, l.length = n ∧ v = .agg ((byI l).map (Value.int .u8)).toArray := by
  obtain ⟨zs, hl, hv, hw⟩ := arr_ints ht he ce ct hv h
  have e1 : byI (zs.map fun z => UInt8.ofNat z.toNat) = zs := by
    refine List.ext_getElem (by simp [byI]) fun i h1 h2 => ?_
    have h3 := wf_u8 (hw zs[i] (List.getElem_mem h2))
    simp [byI, UInt8.toNat_ofNat']
    omega
  exact ⟨zs.map fun z => UInt8.ofNat z.toNat, by simpa using hl, by rw [e1]; exact hv⟩
end Go.Proofs.Ytonnngndknoljaa
