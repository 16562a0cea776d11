/- The code of a key and bytes, and the keys that follow from a chaining key: plain mathematics. No program's text is named. -/
import Derived.Test.YtkoecgoajbgkgaaDoorSMath2
namespace Go.Proofs.YtkoecgoajbgkgaaDoor
set_option linter.unusedSimpArgs false
set_option linter.unusedVariables false

/-- The sum of 32 bytes. -/
def s2L (l : List UInt8) : List UInt8 := otL (abF 136 6 l) 136 32
theorem s2L_length (l : List UInt8) : (s2L l).length = 32 := otL_length _ _ _
/-- A key as it counts, without noughts behind it, and with them. -/
def kyS (k : List UInt8) : List UInt8 := if 136 < k.length then s2L k else k
theorem kyS_length (k : List UInt8) : (kyS k).length ≤ 136 := by
  unfold kyS
  split
  · rw [s2L_length]; decide
  · omega
def kyL (k : List UInt8) : List UInt8 := kyS k ++ List.replicate (136 - (kyS k).length) 0
theorem kyL_length (k : List UInt8) : (kyL k).length = 136 := by
  have := kyS_length k
  simp [kyL]
  omega
def mxP (K : List UInt8) (c : UInt8) (j : Nat) : List UInt8 := (List.range j).map fun t => K.getD t 0 ^^^ c
theorem mxP_next (K : List UInt8) (c : UInt8) (j : Nat) : mxP K c j ++ [K.getD j 0 ^^^ c] = mxP K c (j + 1) := by
  unfold mxP
  rw [List.range_succ, List.map_append]
  rfl
theorem mxP_length (K : List UInt8) (c : UInt8) (j : Nat) : (mxP K c j).length = j := by simp [mxP]
/-- The code. -/
def mcF (k b : List UInt8) : List UInt8 := s2L (mxP (kyL k) 92 136 ++ s2L (mxP (kyL k) 54 136 ++ b))
theorem mcF_length (k b : List UInt8) : (mcF k b).length = 32 := s2L_length _
theorem mxP_get (K : List UInt8) (c : UInt8) (j t : Nat) (h : t < j) : (mxP K c j).getD t 0 = K.getD t 0 ^^^ c := by simp [mxP, h]
/-- The three keys. -/
def k1F (ck b : List UInt8) : List UInt8 := mcF (mcF ck b) [1]
def k2F (ck b : List UInt8) : List UInt8 := mcF (mcF ck b) (k1F ck b ++ [2])
def k3F (ck b : List UInt8) : List UInt8 := mcF (mcF ck b) (k2F ck b ++ [3])
/-- Noughts behind a key change nothing. -/
theorem kyL_noughts (k : List UInt8) (n : Nat) (h : k.length + n ≤ 136) : kyL (k ++ List.replicate n 0) = kyL k := by
  have e1 : kyS (k ++ List.replicate n 0) = k ++ List.replicate n 0 := by
    unfold kyS
    rw [if_neg (by simp; omega)]
  have e2 : kyS k = k := by
    unfold kyS
    rw [if_neg (by omega)]
  unfold kyL
  rw [e1, e2, List.append_assoc, List.replicate_append_replicate]
  congr 2
  simp
  omega
theorem mcF_noughts (k b : List UInt8) (n : Nat) (h : k.length + n ≤ 136) : mcF (k ++ List.replicate n 0) b = mcF k b := by
  unfold mcF
  rw [kyL_noughts k n h]
/-- A longer key counts as its sum. -/
theorem mcF_long (k b : List UInt8) (h : 136 < k.length) : mcF k b = mcF (s2L k) b := by
  have e : kyL k = kyL (s2L k) := by
    have e1 : kyS k = s2L k := by unfold kyS; rw [if_pos h]
    have e2 : kyS (s2L k) = s2L k := by unfold kyS; rw [if_neg (by rw [s2L_length]; omega)]
    unfold kyL
    rw [e1, e2]
  unfold mcF
  rw [e]
end Go.Proofs.YtkoecgoajbgkgaaDoor
