/- Sums and codes reckoned whole by the kernel: every state and every row of bytes is forced to numbers before it is used. No program's text is named. -/
import Derived.Test.YtfiefohdceokdaaDoorKForce
import Derived.Test.YtfiefohdceokdaaDoorKec
namespace Go.Proofs.YtfiefohdceokdaaDoor
set_option linter.unusedSimpArgs false
set_option linter.unusedVariables false

/-- Bytes are reckoned, then handed on. -/
def foB {β : Type} (l : List UInt8) (k : List UInt8 → β) : β := foL (l.map UInt8.toNat) [] fun m => k (m.map UInt8.ofNat)
theorem foB_eq {β : Type} (l : List UInt8) (k : List UInt8 → β) : foB l k = k l := by
  unfold foB
  rw [foL_eq]
  simp [Function.comp_def]
/-- The blocks from the b-th on are taken in: n whole ones, then the last. -/
def abG {β : Type} (l : List UInt8) : Nat → Nat → List Nat → (List Nat → β) → β
  | 0, b, S, k => foL ((List.range 25).map fun j => evS S j ^^^ xbl (lasB 136 6 l) 136 j) [] fun m => prG 24 0 m k
  | n + 1, b, S, k => foL ((List.range 25).map fun j => evS S j ^^^ xbl (fun t => l.getD (b * 136 + t) 0) 136 j) [] fun m => prG 24 0 m fun m2 => abG l n (b + 1) m2 k
theorem xor_ltF {a b : Nat} (ha : a < 18446744073709551616) (hb : b < 18446744073709551616) : a ^^^ b < 18446744073709551616 := Nat.xor_lt_two_pow (n := 64) ha hb
/-- A block is taken in, and the rounds are gone. -/
theorem blk_all {β : Type} (F : Nat → Nat) (S : List Nat) (blk : Nat → UInt8) (k : List Nat → β) (hS : ∀ j, evS S j < 18446744073709551616) (h : ∀ j, j < 25 → F j = evS S j) :
    ∃ m, (foL ((List.range 25).map fun j => evS S j ^^^ xbl blk 136 j) [] fun m => prG 24 0 m k) = k m ∧ (∀ j, evS m j < 18446744073709551616) ∧ ∀ j, j < 25 → tkF F blk 136 j = evS m j := by
  have hm : ∀ j, j < 25 → evS ((List.range 25).map fun j => evS S j ^^^ xbl blk 136 j) j = evS S j ^^^ xbl blk 136 j := fun j hj => by
    show List.getD _ j 0 = _
    simp [List.getD, hj]
  have hb : ∀ j, evS ((List.range 25).map fun j => evS S j ^^^ xbl blk 136 j) j < 18446744073709551616 := fun j => by
    by_cases hj : j < 25
    · rw [hm j hj]
      exact xor_ltF (hS j) (xbl_lt _ _ _)
    · have e : evS ((List.range 25).map fun j => evS S j ^^^ xbl blk 136 j) j = 0 := by
        show List.getD _ j 0 = _
        simp [List.getD, List.getElem?_eq_none (show (List.range 25).length ≤ j by simp; omega)]
      rw [e]
      decide
  obtain ⟨m, h1, h2, h3⟩ := prG_all (fun j => F j ^^^ xbl blk 136 j) k 24 0 _ (Nat.le_refl _) hb (fun j hj => by rw [hm j hj, ← h j hj]; rfl)
  refine ⟨m, ?_, h2, h3⟩
  rw [foL_eq]
  exact h1
theorem abG_all {β : Type} (l : List UInt8) (k : List Nat → β) : ∀ (n b : Nat) (S : List Nat), b + n = l.length / 136 → (∀ j, evS S j < 18446744073709551616) → (∀ j, j < 25 → fuN 136 l b j = evS S j) →
    ∃ m, abG l n b S k = k m ∧ ∀ j, j < 25 → abF 136 6 l j = evS m j
  | 0, b, S, hb, hS, h => by
    obtain ⟨m, h1, h2, h3⟩ := blk_all (fuN 136 l b) S (lasB 136 6 l) k hS h
    refine ⟨m, h1, fun j hj => ?_⟩
    have e : abF 136 6 l = abN 136 (padL 136 6 l) (blN 136 l) := by unfold abF; rw [if_pos (by decide)]; rfl
    rw [e, abs_eq 136 6 l (by decide) j hj, ← hb]
    exact h3 j hj
  | n + 1, b, S, hb, hS, h => by
    obtain ⟨m, h1, h2, h3⟩ := blk_all (fuN 136 l b) S (fun t => l.getD (b * 136 + t) 0) (fun m2 => abG l n (b + 1) m2 k) hS h
    obtain ⟨m2, g1, g2⟩ := abG_all l k n (b + 1) m (by omega) h2 h3
    exact ⟨m2, h1.trans g1, g2⟩
/-- The sum of bytes, reckoned. -/
def s2G {β : Type} (l : List UInt8) (k : List UInt8 → β) : β := foB l fun l => abG l (l.length / 136) 0 [] fun m => foB (bsP (evS m) 32) k
theorem s2G_eq {β : Type} (l : List UInt8) (k : List UInt8 → β) : s2G l k = k (s2L l) := by
  unfold s2G
  rw [foB_eq]
  obtain ⟨m, h1, h2⟩ := abG_all l (fun m => foB (bsP (evS m) 32) k) (l.length / 136) 0 [] (by omega) (fun j => by show (0 : Nat) < _; decide) (fun j hj => rfl)
  rw [h1, foB_eq]
  congr 1
  unfold s2L otL bsP
  refine List.map_congr_left fun t ht => ?_
  have ht2 : t < 32 := List.mem_range.1 ht
  unfold smF
  rw [Nat.div_eq_of_lt (by omega), Nat.mod_eq_of_lt (by omega)]
  show byF (evS m) t = byF (abF 136 6 l) t
  unfold byF
  rw [h2 _ (by omega)]
/-- The code of bytes under a key, reckoned. -/
def mcG {β : Type} (key b : List UInt8) (k : List UInt8 → β) : β := s2G (mxP (kyL key) 54 136 ++ b) fun i => s2G (mxP (kyL key) 92 136 ++ i) k
theorem mcG_eq {β : Type} (key b : List UInt8) (k : List UInt8 → β) : mcG key b k = k (mcF key b) := by
  unfold mcG mcF
  rw [s2G_eq, s2G_eq]
/-- hkdf's first key, and its first two, reckoned. -/
def k1G {β : Type} (ck b : List UInt8) (k : List UInt8 → β) : β := mcG ck b fun t => mcG t [1] k
theorem k1G_eq {β : Type} (ck b : List UInt8) (k : List UInt8 → β) : k1G ck b k = k (k1F ck b) := by
  unfold k1G k1F
  rw [mcG_eq, mcG_eq]
def k2G {β : Type} (ck b : List UInt8) (k : List UInt8 → List UInt8 → β) : β := mcG ck b fun t => mcG t [1] fun a => mcG t (a ++ [2]) fun c => k a c
theorem k2G_eq {β : Type} (ck b : List UInt8) (k : List UInt8 → List UInt8 → β) : k2G ck b k = k (k1F ck b) (k2F ck b) := by
  unfold k2G k2F k1F
  rw [mcG_eq, mcG_eq, mcG_eq]
theorem try_one : s2G [] (fun l => l.getD 0 0 == 167 && l.getD 1 0 == 255) = true := by decide +kernel
end Go.Proofs.YtfiefohdceokdaaDoor
