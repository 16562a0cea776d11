/- What the program's listed tables give every call, and a world that holds them: shared by the laws of this seat. -/
import Derived.Test.YtfiefohdceokdaaDoorCards
import Derived.Test.YtfiefohdceokdaaDoorTie
import Derived.Test.YtfiefohdceokdaaDoorKc
import Derived.Test.YtfiefohdceokdaaDoorBase
import Derived.WalkKit
import Derived.ProofKit
import Derived.OpenShut
import Derived.ChangeOld
import Derived.Below
import Derived.Deep.DeepHandedRow
import Derived.Lib.LaidTab
import Derived.Stop.LaidErr
namespace Go.Proofs.YtfiefohdceokdaaDoor
open Go.ChangeShapes Go.WideShapes Go.ChangeAt Go.RowKit
set_option linter.unusedVariables false

theorem own : ownKnob Tryd.prog.godebug = none := by kernel_rfl
theorem laidOut : laidOutB Tryd.prog = true := by kernel_rfl
theorem gTurns : Tryd.prog.globalNamed "redan/keccak.turns" = some 1 := by kernel_rfl
theorem gConsts : Tryd.prog.globalNamed "redan/keccak.constants" = some 0 := by kernel_rfl
theorem tTurns : (Tryd.prog.globals[1]?).map (·.type) = some 61 := by kernel_rfl
theorem tConsts : (Tryd.prog.globals[0]?).map (·.type) = some 60 := by kernel_rfl
theorem cells61' : Tryd.prog.cellsOf 61 = 25 := by kernel_rfl
theorem cells60' : Tryd.prog.cellsOf 60 = 24 := by kernel_rfl
theorem cells3' : Tryd.prog.cellsOf 3 = 1 := by kernel_rfl
theorem cells23' : Tryd.prog.cellsOf 23 = 1 := by kernel_rfl
/-- What the row lists. -/
abbrev listed : List (String × DataW Unit) := [("redan/keccak.turns", Rows.laid_redan_keccak_turns), ("redan/keccak.constants", Rows.laid_redan_keccak_constants)]
theorem tabs_of {W : World} (h : laidMetH Tryd.prog listed W) : Tabs W := by
  have h1 : laidMet Tryd.prog (("redan/keccak.turns", Lib.tabData .i64 trT) :: [("redan/keccak.constants", Lib.tabData .u64 ksT)]) W := h
  have a := Lib.tabIs_of_head gTurns tTurns Tryd.underlying61 Tryd.underlying3 cells3' cells61' h1
  have b := Lib.tabIs_of_head gConsts tConsts Tryd.underlying60 Tryd.underlying23 cells23' cells60' h1.tail
  exact ⟨fun i hi => a.cell gTurns i hi, fun i hi => b.cell gConsts i hi⟩
/-- A block that holds these cells instead. -/
def withCells (cs : Array Value) : Obj → Obj
  | .cells _ t fr => .cells cs t fr
  | o => o
/-- A world for the witness: the settled one, the tables holding what their initialisers lay. -/
noncomputable def laidWorld (os : Os) : World :=
  { World.holding Tryd.prog os ⟨#[], #[], []⟩ with heap := ((World.holding Tryd.prog os ⟨#[], #[], []⟩).heap.modify 0 (withCells (ksT.map (Value.int .u64)).toArray)).modify 1 (withCells (trT.map (Value.int .i64)).toArray) }
/-- What came in as a row of numbers. -/
theorem IsRow.rdI {k : IntKind} {w : World} {a : Option Addr} {len cap : Nat} {zs : List Int} (h : IsRow k w a len cap zs) : ∃ l : List Int, l.length = len ∧ RdI k w (.slice a len cap) l ∧ ∀ n ∈ l, (Lit.int k n).wf = true := by
  rcases h with ⟨rfl, rfl, rfl, rfl⟩ | ⟨x, rfl, hl, hm, hz, hc, hw⟩
  · exact ⟨[], rfl, RdI.nil k w, by simp⟩
  · have hlen : (zs.take len).length = len := by simp; omega
    refine ⟨zs.take len, hlen, ⟨_, cap, by rw [hlen], by rw [hlen]; exact hl, hm, (fun h => by cases h), ?_⟩, fun n hn => hw n (List.mem_of_mem_take hn)⟩
    by_cases h0 : len = 0
    · left; exact List.eq_nil_of_length_eq_zero (by rw [hlen]; exact h0)
    · right
      obtain ⟨b, off, spot⟩ := x
      have hspot : spot = none := by simpa [Addr.add] using World.cell?_spot (hc 0 (by omega))
      subst hspot
      refine ⟨b, off, rfl, fun i hi => ?_⟩
      rw [hlen] at hi
      have h1 := hc i (by omega)
      have hplain : (⟨b, off, none⟩ : Addr).add i = ⟨b, off + i, none⟩ := by unfold Addr.add; split <;> simp_all
      rw [hplain] at h1
      rw [h1]
      simp [hi]
theorem byte_of {n : Int} (h : (Lit.int .u8 n).wf = true) : ∃ x : UInt8, n = (x.toNat : Int) := by
  have := wf_u8 h
  refine ⟨UInt8.ofNat n.toNat, ?_⟩
  rw [UInt8.toNat_ofNat']
  omega
end Go.Proofs.YtfiefohdceokdaaDoor
