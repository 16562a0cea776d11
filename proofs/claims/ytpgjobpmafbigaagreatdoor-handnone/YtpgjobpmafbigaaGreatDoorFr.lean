/- What the program's listed tables give every call, and a world that holds them: shared by the laws of this seat. -/
import Derived.Test.YtpgjobpmafbigaaGreatDoorCards
import Derived.Test.YtpgjobpmafbigaaGreatDoorTie
import Derived.Test.YtpgjobpmafbigaaGreatDoorGa
import Derived.Test.YtpgjobpmafbigaaGreatDoorBase
import Derived.Test.YtpgjobpmafbigaaGreatDoorGb
import Derived.WalkKit
import Derived.ProofKit
import Derived.OpenShut
import Derived.ChangeOld
import Derived.Below
import Derived.Deep.DeepHandedRow
import Derived.Lib.LaidTab
import Derived.Stop.LaidErr
import Derived.Shelf.Vars
import Derived.Deep.DeepLaidRun
import GoSem.PinnedTables
namespace Go.Proofs.YtpgjobpmafbigaaGreatDoor
open Go.ChangeShapes Go.WideShapes Go.ChangeAt Go.RowKit
set_option linter.unusedVariables false

theorem own:ownKnob Tryz.prog.godebug=none:=by kernel_rfl
theorem laidOut:laidOutB Tryz.prog=true:=by kernel_rfl
theorem g_keccak_turns:Tryz.prog.globalNamed "redan/keccak.turns" =some 7:=by kernel_rfl
theorem t_keccak_turns:(Tryz.prog.globals[7]?).map (·.type)=some 367:=by kernel_rfl
theorem ca_keccak_turns:Tryz.prog.cellsOf 367=25:=by kernel_rfl
theorem ci_keccak_turns:Tryz.prog.cellsOf 3=1:=by kernel_rfl
theorem g_keccak_constants:Tryz.prog.globalNamed "redan/keccak.constants" =some 6:=by kernel_rfl
theorem t_keccak_constants:(Tryz.prog.globals[6]?).map (·.type)=some 366:=by kernel_rfl
theorem ca_keccak_constants:Tryz.prog.cellsOf 366=24:=by kernel_rfl
theorem ci_keccak_constants:Tryz.prog.cellsOf 39=1:=by kernel_rfl
theorem g_zq_powers:Tryz.prog.globalNamed "redan/zq.powers" =some 2:=by kernel_rfl
theorem t_zq_powers:(Tryz.prog.globals[2]?).map (·.type)=some 340:=by kernel_rfl
theorem ca_zq_powers:Tryz.prog.cellsOf 340=7:=by kernel_rfl
theorem ci_zq_powers:Tryz.prog.cellsOf 3=1:=by kernel_rfl
theorem g_pattern_tokenWords:Tryz.prog.globalNamed "redan/pattern.tokenWords" =some 1:=by kernel_rfl
theorem t_pattern_tokenWords:(Tryz.prog.globals[1]?).map (·.type)=some 315:=by kernel_rfl
theorem ci_pattern_tokenWords:Tryz.prog.cellsOf 9=1:=by kernel_rfl
theorem g_pattern_arrows:Tryz.prog.globalNamed "redan/pattern.arrows" =some 0:=by kernel_rfl
theorem t_pattern_arrows:(Tryz.prog.globals[0]?).map (·.type)=some 253:=by kernel_rfl
theorem ci_pattern_arrows:Tryz.prog.cellsOf 9=1:=by kernel_rfl
abbrev listed:List (String×DataW Unit):=[("redan/keccak.turns",Rows.laid_redan_keccak_turns),("redan/keccak.constants",Rows.laid_redan_keccak_constants),("redan/zq.powers",Rows.laid_redan_zq_powers),("unicode/utf8.acceptRanges",Rows.laid_unicode_utf8_acceptRanges),("redan/chacha.places",Rows.laid_redan_chacha_places),("redan/poly.kept",Rows.laid_redan_poly_kept),("redan/pattern.tokenWords",Rows.laid_redan_pattern_tokenWords),("redan/pattern.arrows",Rows.laid_redan_pattern_arrows),("unicode/utf8.first",Rows.laid_unicode_utf8_first)]
def p17I:List Int:=[17,289,296,1062,2642,2580,1729]
theorem p17I_at:∀i,i<7→p17I.getD i 0=((p17L.getD i 0:Nat):Int):=by decide
def plR:List (List Int):=[[0,4,8,12],[1,5,9,13],[2,6,10,14],[3,7,11,15],[0,5,10,15],[1,6,11,12],[2,7,8,13],[3,4,9,14]]
def kpI:List Int:=[255,255,255,15,252,255,255,15,252,255,255,15,252,255,255,15]
def arL:List (List UInt8):=[[45,62],[60,45]]
theorem tabs2_of {W:World} (h:laidMetH Tryz.prog listed W):Tabs W:=by
 have h1:laidMet Tryz.prog (("redan/keccak.turns",Lib.tabData .i64 trT) :: ("redan/keccak.constants",Lib.tabData .u64 ksT) :: ("redan/zq.powers",Lib.tabData .i64 p17I) :: ("unicode/utf8.acceptRanges",Rows.laid_unicode_utf8_acceptRanges) :: ("redan/chacha.places",.agg (plR.map (Lib.tabData .i64))) :: ("redan/poly.kept",Lib.tabData .u8 kpI) :: ("redan/pattern.tokenWords",.agg (wdL.map fun l=> .lit (.string l))) :: ("redan/pattern.arrows",.agg (arL.map fun l=> .lit (.string l))) :: ("unicode/utf8.first",Rows.laid_unicode_utf8_first) :: []) W:=h
 have a:=Lib.tabIs_of_head g_keccak_turns t_keccak_turns Tryz.underlying367 Tryz.underlying3 ci_keccak_turns ca_keccak_turns h1
 have b:=Lib.tabIs_of_head g_keccak_constants t_keccak_constants Tryz.underlying366 Tryz.underlying39 ci_keccak_constants ca_keccak_constants h1.tail
 exact⟨fun i hi=>a.cell g_keccak_turns i hi,fun i hi=>b.cell g_keccak_constants i hi⟩
theorem powers_of {W:World} (h:laidMetH Tryz.prog listed W):PwT W:=by
 have h1:laidMet Tryz.prog (("redan/keccak.turns",Lib.tabData .i64 trT) :: ("redan/keccak.constants",Lib.tabData .u64 ksT) :: ("redan/zq.powers",Lib.tabData .i64 p17I) :: ("unicode/utf8.acceptRanges",Rows.laid_unicode_utf8_acceptRanges) :: ("redan/chacha.places",.agg (plR.map (Lib.tabData .i64))) :: ("redan/poly.kept",Lib.tabData .u8 kpI) :: ("redan/pattern.tokenWords",.agg (wdL.map fun l=> .lit (.string l))) :: ("redan/pattern.arrows",.agg (arL.map fun l=> .lit (.string l))) :: ("unicode/utf8.first",Rows.laid_unicode_utf8_first) :: []) W:=h
 have a:=Lib.tabIs_of_head g_zq_powers t_zq_powers Tryz.underlying340 Tryz.underlying3 ci_zq_powers ca_zq_powers (h1.tail.tail)
 intro i hi
 have h2:=a.cell g_zq_powers i (show i<7 from hi)
 rw[p17I_at i hi] at h2
 exact h2
theorem words_of {W:World} (h:laidMetH Tryz.prog listed W):∀i,i<11→W.cell? ⟨1,i,none⟩=some (.string ⟨(wdL.getD i []).toArray⟩):=by
 have h1:laidMet Tryz.prog (("redan/keccak.turns",Lib.tabData .i64 trT) :: ("redan/keccak.constants",Lib.tabData .u64 ksT) :: ("redan/zq.powers",Lib.tabData .i64 p17I) :: ("unicode/utf8.acceptRanges",Rows.laid_unicode_utf8_acceptRanges) :: ("redan/chacha.places",.agg (plR.map (Lib.tabData .i64))) :: ("redan/poly.kept",Lib.tabData .u8 kpI) :: ("redan/pattern.tokenWords",.agg (wdL.map fun l=> .lit (.string l))) :: ("redan/pattern.arrows",.agg (arL.map fun l=> .lit (.string l))) :: ("unicode/utf8.first",Rows.laid_unicode_utf8_first) :: []) W:=h
 exact fun i hi=>strs_of_head g_pattern_tokenWords t_pattern_tokenWords Tryz.underlying315 Tryz.underlying9 ci_pattern_tokenWords (h1.tail.tail.tail.tail.tail.tail) i (show i<11 from hi)
theorem arrows_of {W:World} (h:laidMetH Tryz.prog listed W):∀i,i<2→W.cell? ⟨0,i,none⟩=some (.string ⟨(arL.getD i []).toArray⟩):=by
 have h1:laidMet Tryz.prog (("redan/keccak.turns",Lib.tabData .i64 trT) :: ("redan/keccak.constants",Lib.tabData .u64 ksT) :: ("redan/zq.powers",Lib.tabData .i64 p17I) :: ("unicode/utf8.acceptRanges",Rows.laid_unicode_utf8_acceptRanges) :: ("redan/chacha.places",.agg (plR.map (Lib.tabData .i64))) :: ("redan/poly.kept",Lib.tabData .u8 kpI) :: ("redan/pattern.tokenWords",.agg (wdL.map fun l=> .lit (.string l))) :: ("redan/pattern.arrows",.agg (arL.map fun l=> .lit (.string l))) :: ("unicode/utf8.first",Rows.laid_unicode_utf8_first) :: []) W:=h
 exact fun i hi=>strs_of_head g_pattern_arrows t_pattern_arrows Tryz.underlying253 Tryz.underlying9 ci_pattern_arrows (h1.tail.tail.tail.tail.tail.tail.tail) i (show i<2 from hi)
theorem tk_of {W:World} (h:laidMetH Tryz.prog listed W) (hsh:W.ShapedOpen Tryz.prog):TkT W:=
 ⟨words_of h,arrows_of h 0 (by decide),arrows_of h 1 (by decide),cell_of_shapedOpen_int (zero:=#[.int .i64 0]) (t:=3) hsh (of_decide_eq_true (by kernel_rfl)) (by kernel_rfl) rfl (by kernel_rfl) (by kernel_rfl) Tryz.underlying3⟩
def withCells (cs:Array Value):Obj→Obj
 | .cells _ t fr=> .cells cs t fr
 |o=>o
noncomputable def laidWorld (os:Os):World:=
 {World.holding Tryz.prog os ⟨#[],#[],[]⟩ with heap:=((((((((((World.holding Tryz.prog os ⟨#[],#[],[]⟩).heap).modify 0 (withCells (arL.map fun l=>Value.string ⟨l.toArray⟩).toArray)).modify 1 (withCells (wdL.map fun l=>Value.string ⟨l.toArray⟩).toArray)).modify 2 (withCells (p17I.map (Value.int .i64)).toArray)).modify 4 (withCells (Go.Pinned.utf8FirstZ.map fun n=>Value.int .u8 ((n:Nat):Int)).toArray)).modify 5 (withCells #[.int .u8 128,.int .u8 191,.int .u8 160,.int .u8 191,.int .u8 128,.int .u8 159,.int .u8 144,.int .u8 191,.int .u8 128,.int .u8 143,.int .u8 0,.int .u8 0,.int .u8 0,.int .u8 0,.int .u8 0,.int .u8 0,.int .u8 0,.int .u8 0,.int .u8 0,.int .u8 0,.int .u8 0,.int .u8 0,.int .u8 0,.int .u8 0,.int .u8 0,.int .u8 0,.int .u8 0,.int .u8 0,.int .u8 0,.int .u8 0,.int .u8 0,.int .u8 0])).modify 6 (withCells (ksT.map (Value.int .u64)).toArray)).modify 7 (withCells (trT.map (Value.int .i64)).toArray)).modify 8 (withCells (plL.map fun x=>Value.int .i64 ((x:Nat):Int)).toArray)).modify 9 (withCells (kpI.map (Value.int .u8)).toArray)}
end Go.Proofs.YtpgjobpmafbigaaGreatDoor
