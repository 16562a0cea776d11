/- Arrays of 25 lanes by value: what comes in as one, and the loading of a whole one. -/
import Derived.Test.YtmgkocoemgpgbaaLibI
import Derived.Test.YtmgkocoemgpgbaaKMath
import Derived.Deep.MidRow
namespace Go.Proofs.Ytmgkocoemgpgbaa
set_option linter.unusedSimpArgs false
open Go.ChangeShapes Go.WideShapes Go.ChangeAt Go.RowKit
set_option linter.unusedVariables false

theorem okWide_arr {P : Program} {w : World} {r : Reach} {base : Nat} {t : TypeId} {v : Value} {n : Nat} {e : TypeId} (ht : P.underlying t = some (.array n e)) (h : Value.okWide P w r base t v) : ∃ cs, v = .agg cs ∧ cs.size = P.cellsOf t := by
  unfold Value.okWide at h
  rw [ht] at h
  cases v <;> simp_all

theorem arr_open {H : Type} {enc : TypeId × Value → H} {P : Program} {w : World} {base b0 : Nat} {spare : Nat → Bool} {held : Bool} {r : Reach} {t e : TypeId} {v : Value} {d : DataW H} {p : List MemPlace}
    (ht : P.underlying t = some (.array 25 e)) (he : P.underlying e = some (.int .u64)) (ce : P.cellsOf e = 1) (ct : P.cellsOf t = 25) (hv : Value.okWide P w r b0 t v) (h : DataW.Trod enc P w base spare held t v d p) :
    ∃ f : Nat → Nat, (∀ i, f i < 18446744073709551616) ∧ v = .agg ((stL f).map (Value.int .u64)).toArray := by
  obtain ⟨cs, rfl, hsz⟩ := okWide_arr ht hv
  rw [ct] at hsz
  obtain ⟨fuel, hf⟩ := h
  obtain ⟨xs, m, _, _, _, hl, hx⟩ := DataW.trod_array ht hf
  have key : ∀ i, i < 25 → ∃ n : Nat, n < 18446744073709551616 ∧ cs[i]? = some (.int .u64 (n : Int)) := by
    intro i hi
    have h1 := hx i hi
    rw [ce, Nat.mul_one] at h1
    have h2 : xs[i]? = some xs[i] := List.getElem?_eq_getElem (by omega)
    rw [h2] at h1
    obtain ⟨n, hc, _, hw⟩ := DataW.trod_int he h1
    have hb := bounds_u64 hw
    refine ⟨n.toNat, by omega, ?_⟩
    have hi2 : i < cs.size := by omega
    simp only [Value.cells] at hc
    rw [List.drop_eq_getElem_cons (by simpa using hi2)] at hc
    simp at hc
    rw [Array.getElem?_eq_getElem hi2, hc, Int.toNat_of_nonneg hb.1]
  obtain ⟨F, hF⟩ : ∃ F : Nat → Nat, ∀ i, i < 25 → F i < 18446744073709551616 ∧ cs[i]? = some (.int .u64 ((F i : Nat) : Int)) :=
    ⟨fun i => if h : i < 25 then Classical.choose (key i h) else 0, fun i hi => by
      dsimp only
      rw [dif_pos hi]
      exact Classical.choose_spec (key i hi)⟩
  refine ⟨fun i => if i < 25 then F i else 0, fun i => ?_, ?_⟩
  · dsimp only
    split
    · rename_i h
      exact (hF i h).1
    · decide
  · congr 1
    apply Array.ext
    · simp [stL, hsz]
    · intro i h1 h2
      have hi : i < 25 := by omega
      have h3 := (hF i hi).2
      rw [Array.getElem?_eq_getElem h1, Option.some.injEq] at h3
      rw [h3]
      simp [stL, hi]

/-- A whole array that lies at a row's head is loaded. -/
theorem wpList_load_row {k : IntKind} {e : TypeId} {g cap : Nat} {l : List Int} {P : Program} {ops : Array Oper} {rest : List Oper} {op : Oper} {a : Act} {w : World} {Q : Exit → Act → World → Prop} (hgd : op.guard = none) (ty : TypeId) (x : Operand) (ho : op.op = .load ty x)
    (hx : a.eval x = .pointer (some ⟨g, 0, none⟩)) (hr : RowAt k e g cap l w) (d : TypeDesc) (hu : P.underlying ty = some d) (hd : d.isRow = true) (hi : (P.info? ty).map (·.size) = some l.length)
    (h : wpList P ops Q rest (a.put op.dst (.agg (l.map (Value.int k)).toArray)) w) : wpList P ops Q (op :: rest) a w :=
  wpList_load_mid hgd ty x ho g 0 hx (l.map (Value.int k)) d (fun j v hv => by
    have hj : j < l.length := by
      rcases Nat.lt_or_ge j l.length with h | h
      · exact h
      · simp [List.getElem?_eq_none h] at hv
    rw [Nat.zero_add, hr.cell hj]
    simp [hj] at hv
    simp [hj, hv]) hu hd (by simpa using hi) h
end Go.Proofs.Ytmgkocoemgpgbaa
