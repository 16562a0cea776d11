/- What the program's listed tables give every call, and a world that holds them: shared by the laws of this seat. -/
import Derived.Test.YtmhbjaampobcbaaGreatDoorCards
import Derived.Test.YtmhbjaampobcbaaGreatDoorTie
import Derived.Test.YtmhbjaampobcbaaGreatDoorKc
import Derived.Test.YtmhbjaampobcbaaGreatDoorZz
import Derived.Test.YtmhbjaampobcbaaGreatDoorBase
import Derived.WalkKit
import Derived.ProofKit
import Derived.OpenShut
import Derived.ChangeOld
import Derived.Below
import Derived.Deep.DeepHandedRow
import Derived.Lib.LaidTab
import Derived.Stop.LaidErr
namespace Go.Proofs.YtmhbjaampobcbaaGreatDoor
open Go.ChangeShapes Go.WideShapes Go.ChangeAt Go.RowKit
set_option linter.unusedVariables false

theorem own : ownKnob Tryz.prog.godebug = none := by kernel_rfl
theorem laidOut : laidOutB Tryz.prog = true := by kernel_rfl
theorem g_keccak_turns : Tryz.prog.globalNamed "redan/keccak.turns" = some 2 := by kernel_rfl
theorem t_keccak_turns : (Tryz.prog.globals[2]?).map (·.type) = some 131 := by kernel_rfl
theorem ca_keccak_turns : Tryz.prog.cellsOf 131 = 25 := by kernel_rfl
theorem ci_keccak_turns : Tryz.prog.cellsOf 3 = 1 := by kernel_rfl
theorem g_keccak_constants : Tryz.prog.globalNamed "redan/keccak.constants" = some 1 := by kernel_rfl
theorem t_keccak_constants : (Tryz.prog.globals[1]?).map (·.type) = some 130 := by kernel_rfl
theorem ca_keccak_constants : Tryz.prog.cellsOf 130 = 24 := by kernel_rfl
theorem ci_keccak_constants : Tryz.prog.cellsOf 70 = 1 := by kernel_rfl
theorem g_zq_powers : Tryz.prog.globalNamed "redan/zq.powers" = some 0 := by kernel_rfl
theorem t_zq_powers : (Tryz.prog.globals[0]?).map (·.type) = some 122 := by kernel_rfl
theorem ca_zq_powers : Tryz.prog.cellsOf 122 = 7 := by kernel_rfl
theorem ci_zq_powers : Tryz.prog.cellsOf 3 = 1 := by kernel_rfl
abbrev listed : List (String × DataW Unit) := [("redan/keccak.turns", Rows.laid_redan_keccak_turns), ("redan/keccak.constants", Rows.laid_redan_keccak_constants), ("redan/zq.powers", Rows.laid_redan_zq_powers)]
def p17I : List Int := [17, 289, 296, 1062, 2642, 2580, 1729]
theorem p17I_at : ∀ i, i < 7 → p17I.getD i 0 = ((p17L.getD i 0 : Nat) : Int) := by decide
theorem tabs2_of {W : World} (h : laidMetH Tryz.prog listed W) : Tabs W := by
 have h1 : laidMet Tryz.prog (("redan/keccak.turns", Lib.tabData .i64 trT) :: ("redan/keccak.constants", Lib.tabData .u64 ksT) :: ("redan/zq.powers", Lib.tabData .i64 p17I) :: []) W := h
 have a := Lib.tabIs_of_head g_keccak_turns t_keccak_turns Tryz.underlying131 Tryz.underlying3 ci_keccak_turns ca_keccak_turns h1
 have b := Lib.tabIs_of_head g_keccak_constants t_keccak_constants Tryz.underlying130 Tryz.underlying70 ci_keccak_constants ca_keccak_constants h1.tail
 exact ⟨fun i hi => a.cell g_keccak_turns i hi, fun i hi => b.cell g_keccak_constants i hi⟩
theorem powers_of {W : World} (h : laidMetH Tryz.prog listed W) : PwT W := by
 have h1 : laidMet Tryz.prog (("redan/keccak.turns", Lib.tabData .i64 trT) :: ("redan/keccak.constants", Lib.tabData .u64 ksT) :: ("redan/zq.powers", Lib.tabData .i64 p17I) :: []) W := h
 have a := Lib.tabIs_of_head g_zq_powers t_zq_powers Tryz.underlying122 Tryz.underlying3 ci_zq_powers ca_zq_powers (h1.tail.tail)
 intro i hi
 have h2 := a.cell g_zq_powers i (show i < 7 from hi)
 rw [p17I_at i hi] at h2
 exact h2
def withCells (cs : Array Value) : Obj → Obj
 | .cells _ t fr => .cells cs t fr
 | o => o
noncomputable def laidWorld (os : Os) : World :=
 { World.holding Tryz.prog os ⟨#[], #[], []⟩ with heap := ((((World.holding Tryz.prog os ⟨#[], #[], []⟩).heap).modify 0 (withCells (p17I.map (Value.int .i64)).toArray)).modify 1 (withCells (ksT.map (Value.int .u64)).toArray)).modify 2 (withCells (trT.map (Value.int .i64)).toArray) }
theorem IsRow.rdI {k : IntKind} {w : World} {a : Option Addr} {len cap : Nat} {zs : List Int} (h : IsRow k w a len cap zs) : ∃ l : List Int, l.length = len ∧ RdI k w (.slice a len cap) l ∧ ∀ n ∈ l, (Lit.int k n).wf = true := by
 rcases h with ⟨rfl, rfl, rfl, rfl⟩ | ⟨x, rfl, hl, hm, hz, hc, hw⟩
 ·exact ⟨[], rfl, RdI.nil k w, by simp⟩
 ·have hlen : (zs.take len).length = len := by simp; omega
  refine ⟨zs.take len, hlen, ⟨_, cap, by rw [hlen], by rw [hlen]; exact hl, hm, (fun h => by cases h), ?_⟩, fun n hn => hw n (List.mem_of_mem_take hn)⟩
  by_cases h0 : len = 0
  ·left; exact List.eq_nil_of_length_eq_zero (by rw [hlen]; exact h0)
  ·right
   obtain ⟨b, off, spot⟩ := x
   have hspot : spot = none := by simpa [Addr.add] using World.cell?_spot (hc 0 (by omega))
   subst hspot
   refine ⟨b, off, rfl, fun i hi => ?_⟩
   rw [hlen] at hi
   have h1 := hc i (by omega)
   have hplain : (⟨b, off, none⟩ : Addr).add i = ⟨b, off + i, none⟩ := by unfold Addr.add; split <;> simp_all
   rw [hplain] at h1
   rw [h1]
   simp [hi]
end Go.Proofs.YtmhbjaampobcbaaGreatDoor
