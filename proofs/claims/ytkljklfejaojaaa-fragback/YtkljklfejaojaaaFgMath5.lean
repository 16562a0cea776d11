/- A buffer stays small: plain mathematics. No program's text is named. -/
import Derived.Test.YtkljklfejaojaaaFgMath4
import Derived.Test.YtkljklfejaojaaaFgMath2
namespace Go.Proofs.Ytkljklfejaojaaa
set_option linter.unusedSimpArgs false
set_option linter.unusedVariables false

theorem EnS.subl {l m : List Ent} (h : EnS m) (hs : l.Sublist m) : EnS l := fun e he => h e (hs.subset he)
theorem EntS.put {e : Ent} (h : EntS e) (i : Nat) {body : List UInt8} (hb : body.length ≤ 1024) : EntS (inE e i body) := by
  refine ⟨by simpa [inE] using h.n, fun x hx => ?_, h.p, h.b⟩
  rcases List.mem_or_eq_of_mem_set hx with hx | rfl
  · exact h.t x hx
  · exact hb
theorem EnS.set {l : List Ent} (h : EnS l) (k : Nat) {e : Ent} (he : EntS e) : EnS (l.set k e) := fun x hx => by
  rcases List.mem_or_eq_of_mem_set hx with hx | rfl
  · exact h x hx
  · exact he
theorem EntS.noE : EntS noE := ⟨by decide, (fun x hx => by cases hx), by decide, by decide⟩
theorem EnS.getD {l : List Ent} (h : EnS l) (k : Nat) : EntS (l.getD k Go.Proofs.Ytkljklfejaojaaa.noE) := by
  by_cases hk : k < l.length
  · exact h.at hk
  · have e : l.getD k Go.Proofs.Ytkljklfejaojaaa.noE = Go.Proofs.Ytkljklfejaojaaa.noE := by simp [Nat.le_of_not_lt hk]
    rw [e]
    exact EntS.noE
theorem EnS.adG {b : Bf} (h : EnS b.l) {p : List UInt8} (hp : p.length ≤ 1000) (m : Int) (part : Nat) {parts : Nat} (hn : parts ≤ 64) {body : List UInt8} (hb : body.length ≤ 1024) {now : Nat} (hnow : now < 18446744073709551616) :
    EnS (adG b p m part parts body now).1.l ∧ (adG b p m part parts body now).1.l.length ≤ b.l.length + 1 := by
  unfold Go.Proofs.Ytkljklfejaojaaa.adG
  cases he : evL b.pm p m body.length b.l.length b.l with
  | none => exact ⟨h, Nat.le_succ _⟩
  | some l2 =>
    obtain ⟨hs, -⟩ := ev_sub he
    simp only
    split
    · exact ⟨h, Nat.le_succ _⟩
    have h2 := h.subl hs
    have hl2 := hs.length_le
    obtain ⟨l3, hl3⟩ : ∃ l3, l3 = if fdN p m l2 < l2.length then l2 else l2 ++ [⟨p, m, now, List.replicate parts []⟩] := ⟨_, rfl⟩
    rw [← hl3]
    have h3 : EnS l3 ∧ l3.length ≤ b.l.length + 1 := by
      rw [hl3]
      split
      · exact ⟨h2, by omega⟩
      · refine ⟨fun x hx => ?_, by rw [List.length_append, List.length_singleton]; omega⟩
        rcases List.mem_append.1 hx with hx | hx
        · exact h2 x hx
        · rw [List.mem_singleton.1 hx]
          refine ⟨by rw [List.length_replicate]; exact hn, fun y hy => ?_, hp, hnow⟩
          rw [List.eq_of_mem_replicate hy]
          exact Nat.zero_le _
    have h4 := h3.1.set (fdN p m l2) ((h3.1.getD (fdN p m l2)).put part hb)
    split
    · exact ⟨h4.subl (List.eraseIdx_sublist _ _), Nat.le_trans (List.eraseIdx_sublist _ _).length_le (by rw [List.length_set]; exact h3.2)⟩
    · exact ⟨h4, by rw [List.length_set]; exact h3.2⟩
theorem EnS.adF {b : Bf} (h : EnS b.l) {p : List UInt8} (hp : p.length ≤ 1000) (m part parts : Int) (body : List UInt8) {now : Nat} (hnow : now < 18446744073709551616) :
    EnS (adF b p m part parts body now).1.l ∧ (adF b p m part parts body now).1.l.length ≤ b.l.length + 1 := by
  have hx : (exL b.age now b.l).Sublist b.l := List.filter_sublist
  unfold Go.Proofs.Ytkljklfejaojaaa.adF
  split
  · rename_i hmay
    have hm := of_decide_eq_true hmay
    have h1 := h.subl hx
    have hl := hx.length_le
    have hG := EnS.adG (b := ⟨b.pm, b.am, b.age, exL b.age now b.l⟩) h1 hp m part.toNat (parts := parts.toNat) (by omega) (body := body) (by omega) hnow
    have hG2 : (Go.Proofs.Ytkljklfejaojaaa.adG ⟨b.pm, b.am, b.age, exL b.age now b.l⟩ p m part.toNat parts.toNat body now).1.l.length ≤ b.l.length + 1 := Nat.le_trans hG.2 (Nat.succ_le_succ hl)
    simp only
    split
    · split
      · exact ⟨h1, Nat.le_trans hl (Nat.le_succ _)⟩
      · split
        · exact ⟨h1, Nat.le_trans hl (Nat.le_succ _)⟩
        · exact ⟨hG.1, hG2⟩
    · exact ⟨hG.1, hG2⟩
  · exact ⟨h, Nat.le_succ _⟩
/-- A buffer that fits the bounds of its own making. -/
def LimB (b : Bf) : Prop := (0 ≤ b.pm ∧ b.pm ≤ 9223372036854775807) ∧ (0 ≤ b.am ∧ b.am ≤ 9223372036854775807)
theorem LimB.ad {b : Bf} (h : LimB b) (p : List UInt8) (m part parts : Int) (body : List UInt8) (now : Nat) : LimB (Go.Proofs.Ytkljklfejaojaaa.adF b p m part parts body now).1 := by
  obtain ⟨h1, h2, -⟩ := adF_lim b p m part parts body now
  unfold LimB
  rw [h1, h2]
  exact h
theorem LimB.nw {x y : Int} (hx : x ≤ 9223372036854775807) (hy : y ≤ 9223372036854775807) (g : Nat) : LimB (nwF x y g) := by
  unfold LimB nwF lsN
  simp only
  refine ⟨⟨?_, ?_⟩, ⟨?_, ?_⟩⟩ <;> split <;> omega
end Go.Proofs.Ytkljklfejaojaaa
