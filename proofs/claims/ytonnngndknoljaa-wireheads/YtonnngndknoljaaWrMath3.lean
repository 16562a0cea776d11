/- Bytes taken apart as their first one says, whether or not the packet that comes of them may be: plain mathematics. No program's text is named. -/
import Derived.Test.YtonnngndknoljaaWrMath2
namespace Go.Proofs.Ytonnngndknoljaa
set_option linter.unusedSimpArgs false
set_option linter.unusedVariables false

/-- n bytes from place i on, as a number. -/
def nbL (b : List UInt8) (i n : Nat) : Nat := leN (((b.drop i).take n).take 8)
theorem nbL_one (b : List UInt8) (i : Nat) : nbL b i 1 = (b.getD i 0).toNat := by
  unfold nbL
  rcases Nat.lt_or_ge i b.length with h | h
  · rw [List.drop_eq_getElem_cons h, List.take_succ_cons, List.take_zero]
    show leN [b[i]] = _
    simp [leN, h]
  · rw [List.drop_eq_nil_of_le h]
    simp [leN, List.getElem?_eq_none h]
theorem nbL_four (b : List UInt8) (i : Nat) : nbL b i 4 = leN ((b.drop i).take 4) := by
  unfold nbL
  rw [List.take_take]
  rfl
theorem nbL_eight (b : List UInt8) (i : Nat) : nbL b i 8 = leN ((b.drop i).take 8) := by
  unfold nbL
  rw [List.take_take]
  rfl
theorem nbL_lt1 (b : List UInt8) (i : Nat) : nbL b i 1 < 256 := by rw [nbL_one]; exact UInt8.toNat_lt _
theorem nbL_lt4 (b : List UInt8) (i : Nat) : nbL b i 4 < 4294967296 := by rw [nbL_four]; exact leN_lt4 _ _
theorem nbL_lt8 (b : List UInt8) (i : Nat) : nbL b i 8 < 18446744073709551616 := by rw [nbL_eight]; exact leN_take_lt _ 8 (by decide)
def ptP (b : List UInt8) : Pkt :=
  if nbL b 0 1 = 1 then ⟨1, nbL b 1 4, nbL b 5 4, (nbL b 9 1 : Int), (nbL b 10 1 : Int), (nbL b 11 1 : Int), (b.drop 12).take 16, 0, b.drop 28⟩
  else if nbL b 0 1 = 2 then ⟨2, 0, nbL b 1 4, 0, 0, 0, b.drop 5, 0, []⟩
  else if nbL b 0 1 = 3 ∨ nbL b 0 1 = 4 then ⟨(nbL b 0 1 : Int), 0, nbL b 1 4, 0, 0, 0, [], nbL b 5 8, b.drop 13⟩
  else ⟨(nbL b 0 1 : Int), 0, 0, 0, 0, 0, [], 0, []⟩
theorem PkW_ptP (b : List UInt8) : PkW (ptP b) := by
  have h0 := nbL_lt1 b 0
  have h9 := nbL_lt1 b 9
  have h10 := nbL_lt1 b 10
  have h11 := nbL_lt1 b 11
  unfold ptP
  split
  · exact ⟨by simp, nbL_lt4 _ _, nbL_lt4 _ _, by simp only; omega, by simp only; omega, by simp only; omega, by simp⟩
  · split
    · exact ⟨by simp, by simp, nbL_lt4 _ _, by simp, by simp, by simp, by simp⟩
    · split
      · exact ⟨by simp only; omega, by simp, nbL_lt4 _ _, by simp, by simp, by simp, nbL_lt8 _ _⟩
      · exact ⟨by simp only; omega, by simp, by simp, by simp, by simp, by simp, by simp⟩
theorem ptP_le {b : List UInt8} (h : b.length ≤ 1200) : (ptP b).mac.length ≤ 1200 ∧ (ptP b).body.length ≤ 1200 := by
  unfold ptP
  split
  · simp; omega
  · split
    · simp; omega
    · split
      · simp; omega
      · simp
/-- What Get answers, by what bytes are when they are taken apart. -/
theorem gtP_pt {b : List UInt8} (h1 : ¬ 1200 < b.length) (h2 : b.length ≠ 0) : gtP b = if mayB (ptP b) = true then (ptP b, 0) else (noPk, 40) := by
  have key : gtC b = some (ptP b) ∨ (gtC b = none ∧ mayB (ptP b) = false) := by
    have e0 := nbL_one b 0
    unfold ptP
    by_cases k1 : nbL b 0 1 = 1
    · rw [if_pos k1]
      by_cases hl : 28 < b.length
      · left
        unfold gtC
        rw [if_pos ⟨by omega, hl⟩, nbL_four, nbL_four, nbL_one, nbL_one, nbL_one]
      · right
        refine ⟨?_, ?_⟩
        · unfold gtC
          rw [if_neg (by omega), if_neg (by omega), if_neg (by omega)]
        · refine decide_eq_false ?_
          have hb : b.drop 28 = [] := List.drop_eq_nil_of_le (by omega)
          unfold mayP mayF
          simp only [hb]
          simp
    · rw [if_neg k1]
      by_cases k2 : nbL b 0 1 = 2
      · rw [if_pos k2]
        by_cases hl : b.length = 21
        · left
          unfold gtC
          rw [if_neg (by omega), if_pos ⟨by omega, hl⟩, nbL_four]
        · right
          refine ⟨?_, ?_⟩
          · unfold gtC
            rw [if_neg (by omega), if_neg (by omega), if_neg (by omega)]
          · refine decide_eq_false ?_
            unfold mayP mayF
            simp
            omega
      · rw [if_neg k2]
        by_cases k3 : nbL b 0 1 = 3 ∨ nbL b 0 1 = 4
        · rw [if_pos k3]
          by_cases hl : 13 < b.length
          · left
            unfold gtC
            rw [if_neg (by omega), if_neg (by omega), if_pos ⟨by omega, hl⟩, nbL_four, nbL_eight, e0]
          · right
            refine ⟨?_, ?_⟩
            · unfold gtC
              rw [if_neg (by omega), if_neg (by omega), if_neg (by omega)]
            · refine decide_eq_false ?_
              have hb : b.drop 13 = [] := List.drop_eq_nil_of_le (by omega)
              unfold mayP mayF
              simp only [hb]
              simp
        · rw [if_neg k3]
          right
          refine ⟨?_, ?_⟩
          · unfold gtC
            rw [if_neg (by omega), if_neg (by omega), if_neg (by omega)]
          · refine decide_eq_false ?_
            unfold mayP mayF
            simp only
            omega
  unfold gtP
  rw [if_neg h1, if_neg h2]
  rcases key with h | ⟨h, hm⟩
  · rw [h]
  · rw [h, hm]
    rfl
end Go.Proofs.Ytonnngndknoljaa
