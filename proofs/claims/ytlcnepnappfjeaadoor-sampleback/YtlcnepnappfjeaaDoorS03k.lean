/- Small laws about strings made of bytes and about what stays. -/
import Derived.Test.YtlcnepnappfjeaaDoorS03e
namespace Go.Proofs.YtlcnepnappfjeaaDoor
open Go.ChangeShapes Go.WideShapes Go.ChangeAt Go.RowKit
set_option linter.unusedSimpArgs false
set_option linter.unusedVariables false

theorem convS {w : World} {v : Value} {l : List UInt8} (h : Rd w v l) : (convert 22 9 v).run Tryd.prog w = .ok (.string ⟨l.toArray⟩) w := h.conv Tryd.underlying22 Tryd.underlying5 Tryd.underlying9
theorem Chg.past {g B : Nat} {a w w' : World} (h : Below B a w) (c : Chg (fun b => b = g) w w') (hB : B ≤ w.heap.size) (hg : B ≤ g) : Below B a w' := c.below h hB fun k _ e => by omega
theorem own_past {g : Nat} {w w' : World} {base : Nat} {e : TypeId} {v : Value} {n : Nat} {xs : List Value} (h : w.ownsRow base e 1 v n xs) (c : Chg (fun b => b = g) w w') (hg : g < base) : w'.ownsRow base e 1 v n xs :=
  own_chg h c fun b hb e => by
    have := (h.lt b hb).1
    omega
theorem New.slice {e : TypeId} {w w' : World} {v : Value} {l : List UInt8} (h : New e w v l w') (hl : l ≠ []) : ∃ g cap, v = .slice (some ⟨g, 0, none⟩) l.length cap ∧ l.length ≤ cap := by
  have hpos : 0 < l.length := List.length_pos_iff.2 hl
  rcases h.1.2 with ⟨h', h0⟩ | ⟨g, cap, cur, h', hb, hg, hn, hm, hs, ht⟩
  · omega
  · exact ⟨g, cap, h', hn⟩
end Go.Proofs.YtlcnepnappfjeaaDoor
