/- The loops of all rounds lane by lane, as far as they have come: plain mathematics. No program's text is named. -/
import Derived.Test.YtkoecgoajbgkgaaDoorKMath5
import Derived.WalkKit
namespace Go.Proofs.YtkoecgoajbgkgaaDoor
set_option linter.unusedSimpArgs false
set_option linter.unusedVariables false

/-! ### Sums of columns -/
def cP (f : Nat → Nat) (X : Nat) : List Int := (List.range 5).map fun x => ((if x < X then colN f x else 0 : Nat) : Int)
theorem cP_length (f : Nat → Nat) (X : Nat) : (cP f X).length = 5 := by simp [cP]
theorem cP_zero (f : Nat → Nat) : List.replicate 5 (0 : Int) = cP f 0 := by simp [cP, List.range_succ, List.replicate]
theorem cP_set (f : Nat → Nat) (X : Nat) : (cP f X).set X ((colN f X : Nat) : Int) = cP f (X + 1) := by
  refine List.ext_getElem (by simp [cP]) fun i h1 h2 => ?_
  simp only [cP, List.getElem_set, List.getElem_map, List.getElem_range]
  by_cases e : X = i
  · subst e; simp
  · have : (i < X + 1) ↔ i < X := by omega
    simp [e, this]
theorem cP_get (f : Nat → Nat) (i : Nat) (hi : i < 5) : (cP f 5).getD i 0 = ((colN f i : Nat) : Int) := by
  simp [cP, hi]

/-! ### Lanes that are replaced one after the other -/
def upQ (f g : Nat → Nat) (K i : Nat) : Nat := if i < K then g i else f i
theorem upQ_zero (f g : Nat → Nat) : stL f = stL (upQ f g 0) := stL_congr fun i hi => by simp [upQ]
theorem upQ_done (f g : Nat → Nat) : stL (upQ f g 25) = stL g := stL_congr fun i hi => by simp [upQ, hi]
theorem upQ_set (f g : Nat → Nat) (K : Nat) : (stL (upQ f g K)).set K ((g K : Nat) : Int) = stL (upQ f g (K + 1)) := by
  rw [stL_set]
  refine stL_congr fun i hi => ?_
  unfold upQ
  by_cases e : i = K
  · subst e; simp
  · have : (i < K + 1) ↔ i < K := by omega
    simp [e, this]
theorem upQ_get (f g : Nat → Nat) (K : Nat) : upQ f g K K = f K := by simp [upQ]

/-! ### Turned and put elsewhere -/
def ppQ (f : Nat → Nat) (T i : Nat) : Nat := if i = 0 then f 0 else if (List.range T).any (fun t => rhPos (t + 1) == i) then piF (rhL f) i else 0
theorem ppQ_zero (f : Nat → Nat) : (stL (fun _ => 0)).set 0 ((f 0 : Nat) : Int) = stL (ppQ f 0) := by
  rw [stL_set]
  exact stL_congr fun i hi => by by_cases e : i = 0 <;> simp [ppQ, e]
theorem pp_all : ∀ i, i < 25 → i ≠ 0 → (List.range 24).any (fun t => rhPos (t + 1) == i) = true := by decide
theorem ppQ_done (f : Nat → Nat) : stL (ppQ f 24) = stL (piF (rhL f)) := stL_congr fun i hi => by
  unfold ppQ
  by_cases e : i = 0
  · subst e; simp [piF, rhL]
  · rw [if_neg e, if_pos (pp_all i hi e)]
theorem pp_from : ∀ T, T < 24 → (rhPos (T + 1) % 5 + 3 * (rhPos (T + 1) / 5)) % 5 + 5 * (rhPos (T + 1) % 5) = rhPos T ∧ rhPos (T + 1) ≠ 0 ∧ rhPos T ≠ 0 ∧ rhTau (rhPos T) = T ∧ rhPos T < 25 ∧ rhPos (T + 1) < 25 := by decide
theorem ppQ_val (f : Nat → Nat) (T : Nat) (hT : T < 24) : piF (rhL f) (rhPos (T + 1)) = turnN (f (rhPos T)) (rhBy T) := by
  obtain ⟨h1, h2, h3, h4, _⟩ := pp_from T hT
  unfold piF
  rw [h1]
  unfold rhL
  rw [if_neg h3, h4]
theorem ppQ_set (f : Nat → Nat) (T : Nat) (hT : T < 24) : (stL (ppQ f T)).set (rhPos (T + 1)) ((turnN (f (rhPos T)) (rhBy T) : Nat) : Int) = stL (ppQ f (T + 1)) := by
  obtain ⟨h1, h2, h3, h4, _⟩ := pp_from T hT
  rw [← ppQ_val f T hT, stL_set]
  refine stL_congr fun i hi => ?_
  unfold ppQ
  by_cases e : i = rhPos (T + 1)
  · subst e
    have : (List.range (T + 1)).any (fun t => rhPos (t + 1) == rhPos (T + 1)) = true := by
      rw [List.any_eq_true]
      exact ⟨T, List.mem_range.2 (by omega), by simp⟩
    simp [h2, this]
  · have : (List.range (T + 1)).any (fun t => rhPos (t + 1) == i) = (List.range T).any (fun t => rhPos (t + 1) == i) := by
      rw [List.range_succ, List.any_append]
      simp [Ne.symm e]
    simp [e, this]

/-! ### Numbers of 64 bits -/
theorem xorI (a b : Nat) (ha : a < 18446744073709551616) (hb : b < 18446744073709551616) : bits .xor .u64 (a : Int) (b : Int) = ((a ^^^ b : Nat) : Int) := u64_xor_nat a b ha hb
theorem andI (a b : Nat) (ha : a < 18446744073709551616) (hb : b < 18446744073709551616) : bits .and .u64 (a : Int) (b : Int) = ((a &&& b : Nat) : Int) := u64_and_nat a b ha hb
theorem colI (f : Nat → Nat) (hf : ∀ i, f i < 18446744073709551616) (x : Nat) :
    bits .xor .u64 (bits .xor .u64 (bits .xor .u64 (bits .xor .u64 ((f x : Nat) : Int) ((f (x + 5) : Nat) : Int)) ((f (x + 10) : Nat) : Int)) ((f (x + 15) : Nat) : Int)) ((f (x + 20) : Nat) : Int) = ((colN f x : Nat) : Int) := by
  rw [xorI _ _ (hf _) (hf _), xorI _ _ (xor_lt64 (hf _) (hf _)) (hf _), xorI _ _ (xor_lt64 (xor_lt64 (hf _) (hf _)) (hf _)) (hf _), xorI _ _ (xor_lt64 (xor_lt64 (xor_lt64 (hf _) (hf _)) (hf _)) (hf _)) (hf _)]
  rfl
theorem thI (f : Nat → Nat) (hf : ∀ i, f i < 18446744073709551616) (k : Nat) :
    bits .xor .u64 (bits .xor .u64 ((f k : Nat) : Int) ((colN f ((k % 5 + 4) % 5) : Nat) : Int)) ((turnN (colN f ((k % 5 + 1) % 5)) 1 : Nat) : Int) = ((thL f k : Nat) : Int) := by
  rw [xorI _ _ (hf _) (colN_lt f hf _), xorI _ _ (xor_lt64 (hf _) (colN_lt f hf _)) (turnN_lt _ _ (colN_lt f hf _) (by decide))]
  rfl
theorem chI (f : Nat → Nat) (hf : ∀ i, f i < 18446744073709551616) (k : Nat) :
    bits .xor .u64 ((f k : Nat) : Int) (IntKind.u64.wrap (((f (k - k % 5 + (k % 5 + 2) % 5) : Nat) : Int) - bits .and .u64 ((f (k - k % 5 + (k % 5 + 2) % 5) : Nat) : Int) ((f (k - k % 5 + (k % 5 + 1) % 5) : Nat) : Int))) = ((chL f k : Nat) : Int) := by
  rw [andI _ _ (hf _) (hf _), IntKind.wrap_u64]
  have h1 := hf (k - k % 5 + (k % 5 + 2) % 5)
  have h2 : f (k - k % 5 + (k % 5 + 2) % 5) &&& f (k - k % 5 + (k % 5 + 1) % 5) ≤ f (k - k % 5 + (k % 5 + 2) % 5) := Nat.and_le_left
  have e : (((f (k - k % 5 + (k % 5 + 2) % 5) : Nat) : Int) - ((f (k - k % 5 + (k % 5 + 2) % 5) &&& f (k - k % 5 + (k % 5 + 1) % 5) : Nat) : Int)) % 18446744073709551616 =
      ((f (k - k % 5 + (k % 5 + 2) % 5) - (f (k - k % 5 + (k % 5 + 2) % 5) &&& f (k - k % 5 + (k % 5 + 1) % 5)) : Nat) : Int) := by omega
  rw [e, xorI _ _ (hf _) (Nat.lt_of_le_of_lt (Nat.sub_le _ _) h1)]
  rfl
theorem ioKI (f : Nat → Nat) (i : Nat) : (stL f).set 0 ((f 0 ^^^ kst.getD i 0 : Nat) : Int) = stL (ioK f i) := by
  rw [stL_set]
  exact stL_congr fun k hk => by by_cases e : k = 0 <;> simp [ioK, e]
end Go.Proofs.YtkoecgoajbgkgaaDoor
