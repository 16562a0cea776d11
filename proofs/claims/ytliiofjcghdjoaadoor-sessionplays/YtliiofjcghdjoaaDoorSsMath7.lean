/- What sealing and opening leave of a session, and how long what they tell is: plain mathematics. No program's text is named. -/
import Derived.Test.YtliiofjcghdjoaaDoorSmt
namespace Go.Proofs.YtliiofjcghdjoaaDoor
set_option linter.unusedSimpArgs false
set_option linter.unusedVariables false

theorem seC_tlen (c : Cph) (ad t : List UInt8) : (seC c ad t).2.1.length ≤ t.length + 16 := by
  unfold seC
  split
  · show t.length ≤ _; omega
  · split
    · show 0 ≤ _; omega
    · split
      · show 0 ≤ _; omega
      · show (seL _ _ _ _).length ≤ _
        rw [seL_len]
        omega
theorem opC_tlen (c : Cph) (ad t : List UInt8) : (opC c ad t).2.1.length ≤ t.length := by
  unfold opC
  split
  · exact Nat.le_refl _
  · split
    · exact Nat.zero_le _
    · split
      · exact Nat.zero_le _
      · split
        · show (opQ _ _ _ _).1.length ≤ _
          unfold opQ
          split
          · exact Nat.zero_le _
          · split
            · rw [smL_length, List.length_take]
              omega
            · exact Nat.zero_le _
        · exact Nat.zero_le _
theorem ssS_keep (r : Rl) (s : Ses) (t : List UInt8) (now : Nat) : (ssS r s t now).1.snd.key = s.snd.key ∧ (ssS r s t now).1.rcv = s.rcv ∧ (ssS r s t now).1.came = s.came := by
  unfold ssS
  split
  · exact ⟨rfl, rfl, rfl⟩
  · split
    · exact ⟨rfl, rfl, rfl⟩
    · exact ⟨seC_kept _ _ _, rfl, rfl⟩
theorem ssS_n {r : Rl} {s : Ses} {t : List UInt8} {now : Nat} (h : SesW s) : (ssS r s t now).2.1 < 18446744073709551616 := by
  unfold ssS
  split
  · exact (by decide : (0 : Nat) < 18446744073709551616)
  · split
    · exact (by decide : (0 : Nat) < 18446744073709551616)
    · exact h.sn
theorem ssS_len (r : Rl) (s : Ses) (t : List UInt8) (now : Nat) : (ssS r s t now).2.2.1.length ≤ t.length + 16 := by
  unfold ssS
  split
  · show 0 ≤ _; omega
  · split
    · show 0 ≤ _; omega
    · exact seC_tlen _ _ _
theorem ssO_keep (r : Rl) (s : Ses) (n : Nat) (b : List UInt8) (now : Nat) : (ssO r s n b now).1.snd = s.snd ∧ (ssO r s n b now).1.rcv = s.rcv ∧ (ssO r s n b now).1.came.length ≤ s.came.length + 1 := by
  unfold ssO
  split
  · exact ⟨rfl, rfl, Nat.le_succ _⟩
  · split
    · exact ⟨rfl, rfl, Nat.le_succ _⟩
    · split
      · exact ⟨rfl, rfl, Nat.le_succ _⟩
      · refine ⟨rfl, rfl, ?_⟩
        show (mkL s.came n).1.length ≤ _
        unfold mkL
        split <;> simp
end Go.Proofs.YtliiofjcghdjoaaDoor
