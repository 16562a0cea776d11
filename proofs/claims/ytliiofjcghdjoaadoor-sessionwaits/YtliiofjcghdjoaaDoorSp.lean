/- What functions of the program, or of the reference, answer: contracts; several texts in one. -/
import Derived.Test.YtliiofjcghdjoaaDoorK02f
import Derived.Test.YtliiofjcghdjoaaDoorWords
import Derived.Test.YtliiofjcghdjoaaDoorKec
import Derived.Test.YtliiofjcghdjoaaDoorBase
import Derived.Test.YtliiofjcghdjoaaDoorRfb

/- What the small functions of package sponge answer: a state's byte, its first bytes, the last block, one block taken in. -/
namespace Go.Proofs.YtliiofjcghdjoaaDoor
open Go.ChangeShapes Go.WideShapes Go.ChangeAt Go.RowKit
set_option linter.unusedSimpArgs false
set_option linter.unusedVariables false

theorem byF_shr (f : Nat → Nat) (n : Nat) : ((f (n / 8) : Nat) : Int) / 2 ^ (8 * (n % 8)) % 256 = ((byF f n).toNat : Int) := stB_shr (f (n / 8)) (n % 8)

theorem New.of_fill {e : TypeId} {w wb : World} {B n : Nat} {f : Nat → UInt8} {wr : World} (h : Fill e wb B n f n wr) (hb : Below w.heap.size w wb) : New e w (.slice (some ⟨B, 0, none⟩) n n) ((List.range n).map f) wr := h.done.from hb
theorem Fill.kept {e : TypeId} {w : World} {B n : Nat} {f : Nat → UInt8} {k : Nat} {wr w2 : World} (h : Fill e w B n f k wr) (hb : Below wr.heap.size wr w2) : Fill e w B n f k w2 := ⟨ownsRow_below h.1 hb, h.2.trans (hb.mono h.2.size)⟩

end Go.Proofs.YtliiofjcghdjoaaDoor

/- What the functions take and lastBlock of package sponge answer: one block taken in, and the last block. -/
namespace Go.Proofs.YtliiofjcghdjoaaDoor
open Go.ChangeShapes Go.WideShapes Go.ChangeAt Go.RowKit
set_option linter.unusedSimpArgs false
set_option linter.unusedVariables false

/-! ### Lanes of bytes -/
theorem leN_noughts : ∀ n, leN (List.replicate n 0) = 0
  | 0 => rfl
  | n + 1 => by rw [List.replicate_succ, leN_cons, leN_noughts n]; rfl
theorem leN_pad (z : Nat) : ∀ l : List UInt8, leN (l ++ List.replicate z 0) = leN l
  | [] => by simpa [leN] using leN_noughts z
  | x :: xs => by rw [List.cons_append, leN_cons, leN_cons, leN_pad z xs]
theorem lane_any (l : List UInt8) (j : Nat) : leN (((l.drop (8 * j)).take (l.length - 8 * j)).take 8) = xbl (fun k => l.getD k 0) l.length j := by
  unfold xbl
  have e : (List.range 8).map (fun t => if 8 * j + t < l.length then l.getD (8 * j + t) 0 else 0) = (l.drop (8 * j)).take 8 ++ List.replicate (8 - (l.length - 8 * j)) 0 := by
    refine List.ext_getElem (by simp; omega) fun t h1 h2 => ?_
    have ht : t < 8 := by simpa using h1
    by_cases h : 8 * j + t < l.length
    · rw [List.getElem_append_left (by simp; omega)]
      simp [h]
    · rw [List.getElem_append_right (by simp; omega)]
      simp [h]
  rw [e, leN_pad, show (l.drop (8 * j)).take (l.length - 8 * j) = l.drop (8 * j) from List.take_of_length_le (by simp)]
theorem xbl_none (blk : Nat → UInt8) (r j : Nat) (h : r ≤ 8 * j) : xbl blk r j = 0 := by
  have e : (List.range 8).map (fun t => if 8 * j + t < r then blk (8 * j + t) else 0) = List.replicate 8 0 := by
    refine List.ext_getElem (by simp) fun t h1 h2 => ?_
    simp only [List.getElem_map, List.getElem_range, List.getElem_replicate]
    rw [if_neg (by omega)]
  unfold xbl
  rw [e, leN_noughts]
theorem arrV_congr {f g : Nat → Nat} (h : ∀ i, i < 25 → f i = g i) : arrV f = arrV g := by
  show Value.agg _ = Value.agg _
  rw [stL_congr h]
theorem arrV_F (f : Nat → Nat) (hf : ∀ i, f i < 18446744073709551616) : arrV (rdsL f 24) = arrV (rdsF f 24) := arrV_congr fun i hi => rdsL_eq f hf 24 (Nat.le_refl _) i hi

end Go.Proofs.YtliiofjcghdjoaaDoor

/- What the functions lastBlock and Absorb of package sponge answer. -/
namespace Go.Proofs.YtliiofjcghdjoaaDoor
open Go.ChangeShapes Go.WideShapes Go.ChangeAt Go.RowKit
set_option linter.unusedSimpArgs false
set_option linter.unusedVariables false

/-- The last block. -/
def lbF (r : Nat) (s : UInt8) (l : List UInt8) (k : Nat) : UInt8 := (if k < l.length then l.getD k 0 else if k = l.length then s else 0) ^^^ (if k = r - 1 then 128 else 0)
def lbL (r : Nat) (s : UInt8) (l : List UInt8) : List UInt8 := (List.range r).map (lbF r s l)
theorem lbL_length (r : Nat) (s : UInt8) (l : List UInt8) : (lbL r s l).length = r := by simp [lbL]
theorem lb_step (r : Nat) (s : UInt8) (l : List UInt8) (hl : l.length < r) (k : Nat) (hk : k < r) : ((l ++ List.replicate (r - l.length) (0 : UInt8)).set l.length s).getD k 0 = if k < l.length then l.getD k 0 else if k = l.length then s else 0 := by
  rw [List.getD_eq_getElem?_getD, List.getElem?_set]
  by_cases h : k < l.length
  · rw [if_pos h, if_neg (by omega), List.getElem?_append_left h, List.getD_eq_getElem?_getD]
  · rw [if_neg h]
    by_cases h2 : k = l.length
    · subst h2
      rw [if_pos rfl, if_pos (by simp; omega), if_pos rfl]
      rfl
    · rw [if_neg h2, if_neg (Ne.symm h2), List.getElem?_append_right (by omega), List.getElem?_replicate, if_pos (by omega)]
      rfl
theorem lb_done (r : Nat) (s : UInt8) (l : List UInt8) (hl : l.length < r) :
    ((l ++ List.replicate (r - l.length) (0 : UInt8)).set l.length s).set (r - 1) (((l ++ List.replicate (r - l.length) (0 : UInt8)).set l.length s).getD (r - 1) 0 ^^^ 128) = lbL r s l := by
  have hlen : ((l ++ List.replicate (r - l.length) (0 : UInt8)).set l.length s).length = r := by simp; omega
  refine List.ext_getElem (by rw [List.length_set, hlen, lbL_length]) fun k h1 h2 => ?_
  have hk : k < r := by rw [lbL_length] at h2; exact h2
  have e1 := lb_step r s l hl k hk
  have e3 : (lbL r s l)[k] = lbF r s l k := by simp [lbL]
  rw [e3, List.getElem_set]
  unfold lbF
  by_cases h : r - 1 = k
  · subst h
    rw [if_pos rfl, if_pos rfl, e1]
  · have e2 : ((l ++ List.replicate (r - l.length) (0 : UInt8)).set l.length s)[k]'(by rw [hlen]; exact hk) = ((l ++ List.replicate (r - l.length) (0 : UInt8)).set l.length s).getD k 0 := by
      rw [List.getD_eq_getElem?_getD, List.getElem?_eq_getElem (by rw [hlen]; exact hk)]
      rfl
    rw [if_neg h, if_neg (Ne.symm h), ← e1, UInt8.xor_zero]
    exact e2

/-- What is left of a row of bytes behind its first ones. -/
theorem Rd.rest {w : World} {b off n cap : Nat} {l : List UInt8} (h : Rd w (.slice (some ⟨b, off, none⟩) n cap) l) (r : Nat) (hr : r ≤ n) :
    Rd w (.slice (if cap = r then some ⟨b, off, none⟩ else some ⟨b, off + r, none⟩) (n - r) (cap - r)) (l.drop r) := by
  have hn : n = l.length := by
    obtain ⟨a, c, e, _⟩ := id h
    simp only [Value.slice.injEq] at e
    exact e.2.1
  by_cases hc : cap = r
  · rw [if_pos hc]
    have hcap : n ≤ cap := by
      obtain ⟨a, c, e, h2, _⟩ := id h
      simp only [Value.slice.injEq] at e
      omega
    have h0 : l.drop r = [] := List.drop_eq_nil_of_le (by omega)
    rw [h0, show n - r = 0 by omega, hc, Nat.sub_self]
    exact ⟨_, 0, rfl, by simp, by simp, fun _ => rfl, .inl rfl⟩
  · rw [if_neg hc]
    have := h.sub r n hr (Nat.le_refl _)
    rwa [List.take_of_length_le (by rw [List.length_drop]; omega)] at this

end Go.Proofs.YtliiofjcghdjoaaDoor

/- What Absorb of package sponge answers: the document's. -/
namespace Go.Proofs.YtliiofjcghdjoaaDoor
open Go.ChangeShapes Go.WideShapes Go.ChangeAt Go.RowKit
set_option linter.unusedSimpArgs false
set_option linter.unusedVariables false

theorem lb_las (r : Nat) (s : UInt8) (l : List UInt8) (hr : 0 < r) (k : Nat) (hk : k < r) : (lbL r s (l.drop (l.length / r * r))).getD k 0 = lasB r s l k := by
  have h0 := Nat.div_add_mod l.length r
  rw [Nat.mul_comm] at h0
  have e1 : (l.drop (l.length / r * r)).length = l.length % r := by simp; omega
  unfold lbL lasB
  rw [show ((List.range r).map (lbF r s (l.drop (l.length / r * r)))).getD k 0 = lbF r s (l.drop (l.length / r * r)) k by simp [hk]]
  unfold lbF
  rw [e1]
  congr 1
  by_cases h : k < l.length % r
  · rw [if_pos h, if_pos h]
    simp
  · rw [if_neg h, if_neg h]

end Go.Proofs.YtliiofjcghdjoaaDoor

/- What the sums of package sponge answer, and what a thing that gives bytes without end is and gives. -/
namespace Go.Proofs.YtliiofjcghdjoaaDoor
open Go.ChangeShapes Go.WideShapes Go.ChangeAt Go.RowKit
set_option linter.unusedSimpArgs false
set_option linter.unusedVariables false

theorem otL_first (f : Nat → Nat) (r n : Nat) (h : n ≤ r) : otL f r n = bsP f n := by
  unfold otL bsP
  refine List.map_congr_left fun k hk => ?_
  have := List.mem_range.1 hk
  unfold smF
  rw [Nat.div_eq_of_lt (by omega), Nat.mod_eq_of_lt (by omega)]
  rfl

end Go.Proofs.YtliiofjcghdjoaaDoor

/- Small laws about strings made of bytes and about what stays. -/
namespace Go.Proofs.YtliiofjcghdjoaaDoor
open Go.ChangeShapes Go.WideShapes Go.ChangeAt Go.RowKit
set_option linter.unusedSimpArgs false
set_option linter.unusedVariables false

theorem convS {w : World} {v : Value} {l : List UInt8} (h : Rd w v l) : (convert 40 9 v).run Tryd.prog w = .ok (.string ⟨l.toArray⟩) w := h.conv Tryd.underlying40 Tryd.underlying5 Tryd.underlying9
theorem Chg.past {g B : Nat} {a w w' : World} (h : Below B a w) (c : Chg (fun b => b = g) w w') (hB : B ≤ w.heap.size) (hg : B ≤ g) : Below B a w' := c.below h hB fun k _ e => by omega
theorem own_past {g : Nat} {w w' : World} {base : Nat} {e : TypeId} {v : Value} {n : Nat} {xs : List Value} (h : w.ownsRow base e 1 v n xs) (c : Chg (fun b => b = g) w w') (hg : g < base) : w'.ownsRow base e 1 v n xs :=
  own_chg h c fun b hb e => by
    have := (h.lt b hb).1
    omega
theorem New.slice {e : TypeId} {w w' : World} {v : Value} {l : List UInt8} (h : New e w v l w') (hl : l ≠ []) : ∃ g cap, v = .slice (some ⟨g, 0, none⟩) l.length cap ∧ l.length ≤ cap := by
  have hpos : 0 < l.length := List.length_pos_iff.2 hl
  rcases h.1.2 with ⟨h', h0⟩ | ⟨g, cap, cur, h', hb, hg, hn, hm, hs, ht⟩
  · omega
  · exact ⟨g, cap, h', hn⟩
end Go.Proofs.YtliiofjcghdjoaaDoor
