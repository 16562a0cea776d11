/- Codes, and what a key is multiplied with, of any key: the program's and the document's own. -/
import Derived.Test.YtcelhlpopdcaaaaDoorP08f
import Derived.Test.YtcelhlpopdcaaaaDoorRef08d
namespace Go.Proofs.YtcelhlpopdcaaaaDoor
open Go.ChangeShapes Go.WideShapes Go.ChangeAt Go.RowKit
set_option linter.unusedSimpArgs false
set_option linter.unusedVariables false

/-- The code, or nothing. -/
def mcA (k b : List UInt8) : List UInt8 := if k.length = 32 then mcP k b else []
def clA (k : List UInt8) : List UInt8 := if k.length = 32 then clP k else []
theorem mac_all (vk vb : Value) (k b : List UInt8) (w : World) (hT : KpT w) (hk : Rd w vk k) (hb : Rd w vb b) :
    Calls Tryd.prog 9 #[vk, vb] w fun e w' => ∃ r, e = .returned r ∧ New 5 w r (mcA k b) w' := by
  unfold mcA
  by_cases h : k.length = 32
  · rw [if_pos h]
    exact pmac_any vk vb k b w hT hk hb h
  · rw [if_neg h]
    refine (pmac_arg vk vb k w hk h).mono ?_
    rintro e w' ⟨rfl, rfl⟩
    exact ⟨_, rfl, New.start _⟩
theorem macR_all (vk vb : Value) (k b : List UInt8) (w : World) (hk : Rd w vk k) (hb : Rd w vb b) (hbl : b.length ≤ 7000000) :
    Calls Tryd.prog 10 #[vk, vb] w fun e w' => ∃ r, e = .returned r ∧ New 5 w r (mcA k b) w' := by
  unfold mcA
  by_cases h : k.length = 32
  · rw [if_pos h]
    exact mac8_any vk vb k b h hbl w hk hb
  · rw [if_neg h]
    refine (mac8_none vk vb k b h w hk).mono ?_
    rintro e w' ⟨rfl, rfl⟩
    exact ⟨_, rfl, New.start _⟩
theorem clamp_all (vk : Value) (k : List UInt8) (w : World) (hT : KpT w) (hk : Rd w vk k) :
    Calls Tryd.prog 11 #[vk] w fun e w' => ∃ r, e = .returned r ∧ New 5 w r (clA k) w' := by
  unfold clA
  by_cases h : k.length = 32
  · rw [if_pos h]
    exact pclamp_any vk k w hT hk h
  · rw [if_neg h]
    refine (pclamp_arg vk k w hk h).mono ?_
    rintro e w' ⟨rfl, rfl⟩
    exact ⟨_, rfl, New.start _⟩
theorem clampR_all (vk : Value) (k : List UInt8) (w : World) (hk : Rd w vk k) :
    Calls Tryd.prog 12 #[vk] w fun e w' => ∃ r, e = .returned r ∧ New 5 w r (clA k) w' := by
  unfold clA
  by_cases h : k.length = 32
  · rw [if_pos h]
    exact clamp8_any vk k h w hk
  · rw [if_neg h]
    refine (clamp8_none vk k h w hk).mono ?_
    rintro e w' ⟨rfl, rfl⟩
    exact ⟨_, rfl, New.start _⟩
theorem clA_le (k : List UInt8) : (clA k).length ≤ 16 := by
  unfold clA
  split
  · rw [clP_length]; exact Nat.le_refl _
  · simp
end Go.Proofs.YtcelhlpopdcaaaaDoor
