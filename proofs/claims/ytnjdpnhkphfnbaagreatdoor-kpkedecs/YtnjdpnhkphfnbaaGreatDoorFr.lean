/- What the program's listed tables give every call, and a world that holds them: shared by the laws of this seat. -/
import Derived.Test.YtnjdpnhkphfnbaaGreatDoorCards
import Derived.Test.YtnjdpnhkphfnbaaGreatDoorTie
import Derived.Test.YtnjdpnhkphfnbaaGreatDoorKc
import Derived.Test.YtnjdpnhkphfnbaaGreatDoorZz
import Derived.Test.YtnjdpnhkphfnbaaGreatDoorBase
import Derived.WalkKit
import Derived.ProofKit
import Derived.OpenShut
import Derived.ChangeOld
import Derived.Below
import Derived.Deep.DeepHandedRow
import Derived.Lib.LaidTab
import Derived.Stop.LaidErr
namespace Go.Proofs.YtnjdpnhkphfnbaaGreatDoor
open Go.ChangeShapes Go.WideShapes Go.ChangeAt Go.RowKit
set_option linter.unusedVariables false

theorem own : ownKnob Tryz.prog.godebug = none := by kernel_rfl
theorem laidOut : laidOutB Tryz.prog = true := by kernel_rfl
theorem g_keccak_turns : Tryz.prog.globalNamed "redan/keccak.turns" = some 2 := by kernel_rfl
theorem t_keccak_turns : (Tryz.prog.globals[2]?).map (·.type) = some 116 := by kernel_rfl
theorem ca_keccak_turns : Tryz.prog.cellsOf 116 = 25 := by kernel_rfl
theorem ci_keccak_turns : Tryz.prog.cellsOf 3 = 1 := by kernel_rfl
theorem g_keccak_constants : Tryz.prog.globalNamed "redan/keccak.constants" = some 1 := by kernel_rfl
theorem t_keccak_constants : (Tryz.prog.globals[1]?).map (·.type) = some 115 := by kernel_rfl
theorem ca_keccak_constants : Tryz.prog.cellsOf 115 = 24 := by kernel_rfl
theorem ci_keccak_constants : Tryz.prog.cellsOf 67 = 1 := by kernel_rfl
theorem g_zq_powers : Tryz.prog.globalNamed "redan/zq.powers" = some 0 := by kernel_rfl
theorem t_zq_powers : (Tryz.prog.globals[0]?).map (·.type) = some 94 := by kernel_rfl
theorem ca_zq_powers : Tryz.prog.cellsOf 94 = 7 := by kernel_rfl
theorem ci_zq_powers : Tryz.prog.cellsOf 3 = 1 := by kernel_rfl
abbrev listed : List (String × DataW Unit) := [("redan/keccak.turns", Rows.laid_redan_keccak_turns), ("redan/keccak.constants", Rows.laid_redan_keccak_constants), ("redan/zq.powers", Rows.laid_redan_zq_powers)]
def p17I : List Int := [17, 289, 296, 1062, 2642, 2580, 1729]
theorem p17I_at : ∀ i, i < 7 → p17I.getD i 0 = ((p17L.getD i 0 : Nat) : Int) := by decide
theorem tabs2_of {W : World} (h : laidMetH Tryz.prog listed W) : Tabs W := by
  have h1 : laidMet Tryz.prog (("redan/keccak.turns", Lib.tabData .i64 trT) :: ("redan/keccak.constants", Lib.tabData .u64 ksT) :: ("redan/zq.powers", Lib.tabData .i64 p17I) :: []) W := h
  have a := Lib.tabIs_of_head g_keccak_turns t_keccak_turns Tryz.underlying116 Tryz.underlying3 ci_keccak_turns ca_keccak_turns h1
  have b := Lib.tabIs_of_head g_keccak_constants t_keccak_constants Tryz.underlying115 Tryz.underlying67 ci_keccak_constants ca_keccak_constants h1.tail
  exact ⟨fun i hi => a.cell g_keccak_turns i hi, fun i hi => b.cell g_keccak_constants i hi⟩
theorem powers_of {W : World} (h : laidMetH Tryz.prog listed W) : PwT W := by
  have h1 : laidMet Tryz.prog (("redan/keccak.turns", Lib.tabData .i64 trT) :: ("redan/keccak.constants", Lib.tabData .u64 ksT) :: ("redan/zq.powers", Lib.tabData .i64 p17I) :: []) W := h
  have a := Lib.tabIs_of_head g_zq_powers t_zq_powers Tryz.underlying94 Tryz.underlying3 ci_zq_powers ca_zq_powers (h1.tail.tail)
  intro i hi
  have h2 := a.cell g_zq_powers i (show i < 7 from hi)
  rw [p17I_at i hi] at h2
  exact h2
def withCells (cs : Array Value) : Obj → Obj
  | .cells _ t fr => .cells cs t fr
  | o => o
noncomputable def laidWorld (os : Os) : World :=
  { World.holding Tryz.prog os ⟨#[], #[], []⟩ with heap := ((((World.holding Tryz.prog os ⟨#[], #[], []⟩).heap).modify 0 (withCells (p17I.map (Value.int .i64)).toArray)).modify 1 (withCells (ksT.map (Value.int .u64)).toArray)).modify 2 (withCells (trT.map (Value.int .i64)).toArray) }
theorem byte_of {n : Int} (h : (Lit.int .u8 n).wf = true) : ∃ x : UInt8, n = (x.toNat : Int) := by
  have := wf_u8 h
  refine ⟨UInt8.ofNat n.toNat, ?_⟩
  rw [UInt8.toNat_ofNat']
  omega
end Go.Proofs.YtnjdpnhkphfnbaaGreatDoor
