/- A region whose order is open, walked once, where only what was there at an earlier moment is known to stay. No program's text is named. -/
import Derived.Test.YtmgkocoemgpgbaaReg
namespace Go.Proofs.Ytmgkocoemgpgbaa
set_option linter.unusedSimpArgs false
set_option linter.unusedVariables false
open Go.RowKit

section
variable {P : Program} {ops : Array Oper} {Q : Exit → Act → World → Prop} {md : Region.Mode}
theorem wpB_begin {w0 : World} {id : Nat} {a : Act} {w : World} (hb : Below w0.heap.size w0 w) (hm : P.follows .mixedOrders = true)
    (h : wpB P .any ops (NoPanic Q) w0 ops.size (Array.replicate ops.size false) a w.drew) : (Code.region id ops true).wp P Q a w :=
  wp_region_noPanic (wp_region_held hm h)
theorem wpB_done {w0 : World} {fuel : Nat} {listed : Array Bool} {a : Act} {w : World} (hr : Region.ready md ops listed = []) (h : Q .normal a w) : wpB P md ops (NoPanic Q) w0 fuel listed a w :=
  wpAnyH_done (Q := NoPanic Q) hr h fuel
end
end Go.Proofs.Ytmgkocoemgpgbaa
