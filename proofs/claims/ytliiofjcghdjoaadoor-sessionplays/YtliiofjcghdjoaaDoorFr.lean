/- What the program's listed tables give every call, and a world that holds them: shared by the laws of this seat. -/
import Derived.Test.YtliiofjcghdjoaaDoorCards
import Derived.Test.YtliiofjcghdjoaaDoorTie
import Derived.Test.YtliiofjcghdjoaaDoorC07c
import Derived.Test.YtliiofjcghdjoaaDoorBase
import Derived.Test.YtliiofjcghdjoaaDoorP08d
import Derived.WalkKit
import Derived.ProofKit
import Derived.OpenShut
import Derived.ChangeOld
import Derived.Below
import Derived.Deep.DeepHandedRow
import Derived.Lib.LaidTab
import Derived.Stop.LaidErr
namespace Go.Proofs.YtliiofjcghdjoaaDoor
open Go.ChangeShapes Go.WideShapes Go.ChangeAt Go.RowKit
set_option linter.unusedVariables false

theorem own : ownKnob Tryd.prog.godebug = none := by kernel_rfl
theorem laidOut : laidOutB Tryd.prog = true := by kernel_rfl
theorem g_chacha_places : Tryd.prog.globalNamed "redan/chacha.places" = some 0 := by kernel_rfl
theorem t_chacha_places : (Tryd.prog.globals[0]?).map (·.type) = some 132 := by kernel_rfl
theorem ca_chacha_places : Tryd.prog.cellsOf 131 = 4 := by kernel_rfl
theorem ci_chacha_places : Tryd.prog.cellsOf 3 = 1 := by kernel_rfl
theorem g_poly_kept : Tryd.prog.globalNamed "redan/poly.kept" = some 1 := by kernel_rfl
theorem t_poly_kept : (Tryd.prog.globals[1]?).map (·.type) = some 135 := by kernel_rfl
theorem ca_poly_kept : Tryd.prog.cellsOf 135 = 16 := by kernel_rfl
theorem ci_poly_kept : Tryd.prog.cellsOf 5 = 1 := by kernel_rfl
/-- What the row lists. -/
abbrev listed : List (String × DataW Unit) := [("redan/chacha.places", Rows.laid_redan_chacha_places), ("redan/poly.kept", Rows.laid_redan_poly_kept)]
def plR : List (List Int) := [[0, 4, 8, 12], [1, 5, 9, 13], [2, 6, 10, 14], [3, 7, 11, 15], [0, 5, 10, 15], [1, 6, 11, 12], [2, 7, 8, 13], [3, 4, 9, 14]]
theorem plR_len : ∀ i, i < 8 → (plR.getD i []).length = 4 := by decide
theorem plR_at : ∀ i, i < 32 → (plR.getD (i / 4) []).getD (i % 4) 0 = ((plL.getD i 0 : Nat) : Int) := by decide
def kpI : List Int := [255, 255, 255, 15, 252, 255, 255, 15, 252, 255, 255, 15, 252, 255, 255, 15]
theorem kpI_at : ∀ i, i < 16 → kpI.getD i 0 = ((kpL.getD i 0 : Nat) : Int) := by decide
theorem places_of {W : World} (h : laidMetH Tryd.prog listed W) : PlT W := by
  have h1 : laidMet Tryd.prog (("redan/chacha.places", .agg (plR.map (Lib.tabData .i64))) :: ("redan/poly.kept", Lib.tabData .u8 kpI) :: []) W := h
  intro i hi
  have h2 := tab2_of_head g_chacha_places t_chacha_places Tryd.underlying132 Tryd.underlying131 Tryd.underlying3 ci_chacha_places ca_chacha_places (h1) (i / 4) (i % 4) (show i / 4 < 8 by omega) (by rw [plR_len _ (by omega)]; omega)
  rw [plR_at i hi, show i / 4 * 4 + i % 4 = i by omega] at h2
  exact h2
theorem kept_of {W : World} (h : laidMetH Tryd.prog listed W) : KpT W := by
  have h1 : laidMet Tryd.prog (("redan/chacha.places", .agg (plR.map (Lib.tabData .i64))) :: ("redan/poly.kept", Lib.tabData .u8 kpI) :: []) W := h
  have a := Lib.tabIs_of_head g_poly_kept t_poly_kept Tryd.underlying135 Tryd.underlying5 ci_poly_kept ca_poly_kept h1.tail
  intro i hi
  have h2 := a.cell g_poly_kept i (show i < 16 from hi)
  rw [kpI_at i hi] at h2
  exact h2
/-- A block that holds these cells instead. -/
def withCells (cs : Array Value) : Obj → Obj
  | .cells _ t fr => .cells cs t fr
  | o => o
/-- A world for the witness: the settled one, the tables holding what their initialisers lay. -/
noncomputable def laidWorld (os : Os) : World :=
  { World.holding Tryd.prog os ⟨#[], #[], []⟩ with heap := (((World.holding Tryd.prog os ⟨#[], #[], []⟩).heap).modify 0 (withCells (plL.map fun x => Value.int .i64 ((x : Nat) : Int)).toArray)).modify 1 (withCells (kpI.map (Value.int .u8)).toArray) }
/-- What came in as a row of numbers. -/
theorem IsRow.rdI {k : IntKind} {w : World} {a : Option Addr} {len cap : Nat} {zs : List Int} (h : IsRow k w a len cap zs) : ∃ l : List Int, l.length = len ∧ RdI k w (.slice a len cap) l ∧ ∀ n ∈ l, (Lit.int k n).wf = true := by
  rcases h with ⟨rfl, rfl, rfl, rfl⟩ | ⟨x, rfl, hl, hm, hz, hc, hw⟩
  · exact ⟨[], rfl, RdI.nil k w, by simp⟩
  · have hlen : (zs.take len).length = len := by simp; omega
    refine ⟨zs.take len, hlen, ⟨_, cap, by rw [hlen], by rw [hlen]; exact hl, hm, (fun h => by cases h), ?_⟩, fun n hn => hw n (List.mem_of_mem_take hn)⟩
    by_cases h0 : len = 0
    · left; exact List.eq_nil_of_length_eq_zero (by rw [hlen]; exact h0)
    · right
      obtain ⟨b, off, spot⟩ := x
      have hspot : spot = none := by simpa [Addr.add] using World.cell?_spot (hc 0 (by omega))
      subst hspot
      refine ⟨b, off, rfl, fun i hi => ?_⟩
      rw [hlen] at hi
      have h1 := hc i (by omega)
      have hplain : (⟨b, off, none⟩ : Addr).add i = ⟨b, off + i, none⟩ := by unfold Addr.add; split <;> simp_all
      rw [hplain] at h1
      rw [h1]
      simp [hi]
theorem byte_of {n : Int} (h : (Lit.int .u8 n).wf = true) : ∃ x : UInt8, n = (x.toNat : Int) := by
  have := wf_u8 h
  refine ⟨UInt8.ofNat n.toNat, ?_⟩
  rw [UInt8.toNat_ofNat']
  omega
end Go.Proofs.YtliiofjcghdjoaaDoor
