/- Numbers of 64 bits that come in. -/
import Derived.Test.YtliiofjcghdjoaaDoorSmt
import Derived.Test.YtliiofjcghdjoaaDoorChecked
import Derived.Test.YtliiofjcghdjoaaDoorBase
import Derived.WalkKit
import Derived.OpenShut
import Derived.Deep.Matrix
namespace Go.Proofs.YtliiofjcghdjoaaDoor
open Go.ChangeShapes Go.WideShapes Go.ChangeAt Go.RowKit
set_option linter.unusedSimpArgs false
set_option linter.unusedVariables false

theorem add_lit20 (b off i : Nat) : (⟨b, off, none⟩ : Addr).add i = ⟨b, off + i, none⟩ := by unfold Addr.add; split <;> simp_all
theorem nums20_open {H : Type} {enc : TypeId × Value → H} {W : World} {base fuel : Nat} {spare : Nat → Bool} {held : Bool} {v : Value} {x : DataW H × List MemPlace} (h : DataW.trod enc Tryd.prog W base spare held fuel 25 [v] = some x) :
    ∃ xs : List Nat, NuI W v xs := by
  rcases open_ints Tryd.underlying25 Tryd.underlying22 (by kernel_rfl) h with ⟨hcs, _⟩ | ⟨a, len, cap, zs, hcs, _, hl, hm, hz, _, hcell, hwz⟩
  · simp at hcs
    subst hcs
    exact ⟨[], RdI.nil .u64 W, fun x hx => by cases hx⟩
  · simp at hcs
    subst hcs
    have hzl : len ≤ zs.length := by rw [hz]; split <;> omega
    have hlen : (nU ((zs.take len).map Int.toNat)).length = len := by rw [nU_length]; simp; omega
    refine ⟨(zs.take len).map Int.toNat, ⟨some a, cap, by rw [hlen], by rw [hlen]; exact hl, hm, (fun h => by cases h), ?_⟩, ?_⟩
    · by_cases h0 : len = 0
      · left; exact List.eq_nil_of_length_eq_zero (by rw [hlen]; exact h0)
      · right
        obtain ⟨b, off, spot⟩ := a
        have hspot : spot = none := by simpa [Addr.add] using World.cell?_spot (hcell 0 (by omega))
        subst hspot
        refine ⟨b, off, rfl, fun i hi => ?_⟩
        rw [hlen] at hi
        have h1 := hcell i (by omega)
        rw [add_lit20] at h1
        rw [h1, nU_getD]
        have h2 : i < zs.length := by omega
        have h3 := bounds_u64 (hwz zs[i] (List.getElem_mem h2))
        have e1 : ((zs.take len).map Int.toNat).getD i 0 = zs[i].toNat := by simp [h2, hi]
        have e2 : zs.getD i 0 = zs[i] := by simp [h2]
        rw [e1]
        have e3 : ((zs[i].toNat : Nat) : Int) = zs[i] := Int.toNat_of_nonneg h3.1
        rw [e3]
        first | rfl | rw [e2] | simp [h2]
    · intro y hy
      obtain ⟨z, hz1, rfl⟩ := List.mem_map.1 hy
      have := bounds_u64 (hwz z (List.mem_of_mem_take hz1))
      omega
end Go.Proofs.YtliiofjcghdjoaaDoor
