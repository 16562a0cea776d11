/- What a source must show, as the document has it: plain mathematics. No program's text is named. -/
import Derived.Test.YtfiefohdceokdaaDoorKec
namespace Go.Proofs.YtfiefohdceokdaaDoor
set_option linter.unusedSimpArgs false
set_option linter.unusedVariables false

/-- Which period it is. -/
def epN (now period : Nat) : Nat := if period = 0 then now else now / period
/-- What a source must show in a period. -/
def ckL (secret : List UInt8) (e : Nat) (src : List UInt8) : List UInt8 := (mcF (mcF secret ((List.range 8).map (stB e))) src).take 16
/-- A code by it. -/
def sgC (c s : List UInt8) : List UInt8 := (mcF c s).take 16
/-- Is a code valid? -/
def vaB (secret : List UInt8) (now period : Nat) (src signed mac : List UInt8) : Bool :=
  decide (sgC (ckL secret (epN now period) src) signed = mac) || (decide (0 < epN now period) && decide (sgC (ckL secret (epN now period - 1) src) signed = mac))
theorem ckL_length (secret : List UInt8) (e : Nat) (src : List UInt8) : (ckL secret e src).length = 16 := by unfold ckL; rw [List.length_take, mcF_length]; rfl
theorem sgC_length (c s : List UInt8) : (sgC c s).length = 16 := by unfold sgC; rw [List.length_take, mcF_length]; rfl
theorem epN_one (now period : Nat) : epN now period = now / (if period = 0 then 1 else period) := by
  unfold epN
  split <;> simp
theorem epN_le (now period : Nat) : epN now period ≤ now := by
  rw [epN_one]
  exact Nat.div_le_self _ _
/-- A code of a moment is valid for the rest of its period, and in the next one. -/
theorem va_lasts (secret : List UInt8) (t p later : Nat) (hp : 0 < p) (src signed : List UInt8) (h1 : t ≤ later) (h2 : later < (t / p + 2) * p) : vaB secret later p src signed (sgC (ckL secret (epN t p) src) signed) = true := by
  have e1 : epN t p = t / p := by unfold epN; rw [if_neg (by omega)]
  have e2 : epN later p = later / p := by unfold epN; rw [if_neg (by omega)]
  have h3 : t / p ≤ later / p := Nat.div_le_div_right h1
  have h4 : later / p < t / p + 2 := (Nat.div_lt_iff_lt_mul hp).2 h2
  unfold vaB
  rw [e1, e2]
  by_cases h : later / p = t / p
  · rw [h]
    simp
  · have h5 : later / p - 1 = t / p := by omega
    have h6 : 0 < later / p := by omega
    rw [h5]
    simp [h6]
/-- Periods rise; each has as many moments as it is long. -/
theorem ep_first (now p : Nat) (hp : 0 < p) : now / p * p ≤ now ∧ now - now / p * p < p ∧ now / p * p / p = now / p ∧ (now / p * p = 0 ∨ (now / p * p - 1) / p = now / p - 1) := by
  have h1 := Nat.div_mul_le_self now p
  have h2 := Nat.lt_div_mul_add hp (a := now)
  refine ⟨h1, by omega, Nat.mul_div_cancel _ hp, ?_⟩
  rcases Nat.eq_zero_or_pos (now / p) with h | h
  · left; rw [h]; simp
  · right
    obtain ⟨q, hq⟩ : ∃ q, now / p = q + 1 := ⟨now / p - 1, by omega⟩
    rw [hq]
    have e : (q + 1) * p - 1 = q * p + (p - 1) := by rw [Nat.succ_mul]; omega
    rw [e, Nat.mul_comm, Nat.mul_add_div hp, Nat.div_eq_of_lt (by omega)]
    rfl
end Go.Proofs.YtfiefohdceokdaaDoor
