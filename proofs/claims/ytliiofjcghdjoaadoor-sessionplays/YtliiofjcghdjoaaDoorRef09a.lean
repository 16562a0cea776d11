/- What the document's own filling up, joining and tag answer: contracts of the reference of layer 9, first part. -/
import Derived.Test.YtliiofjcghdjoaaDoorBase
import Derived.Test.YtliiofjcghdjoaaDoorRfb
import Derived.Test.YtliiofjcghdjoaaDoorRef07c
import Derived.Test.YtliiofjcghdjoaaDoorRef08d
import Derived.Deep.QuietTactic
import Derived.BigQuiet
import Derived.WalkSpells
import Derived.RegionTactic
import Derived.BigRegion
namespace Go.Proofs.YtliiofjcghdjoaaDoor
open Go.ChangeShapes Go.WideShapes Go.ChangeAt Go.RowKit
set_option linter.unusedSimpArgs false
set_option linter.unusedVariables false

/-- A slice's length. -/
def lenOf : Value → Nat
  | .slice _ n _ => n
  | _ => 0
/-- Bytes and so many noughts. -/
def flJ (b : List UInt8) (j : Nat) : List UInt8 := b ++ List.replicate j 0
theorem flJ_next (b : List UInt8) (j : Nat) : flJ b j ++ [(0 : UInt8)] = flJ b (j + 1) := by
  unfold flJ
  rw [List.append_assoc, ← List.replicate_succ']
theorem flJ_length (b : List UInt8) (j : Nat) : (flJ b j).length = b.length + j := by simp [flJ]
theorem pd16_on (n j : Nat) (h : j < pd16 n) : ((((n + j : Nat) : Int) % 16) != 0) = true := by
  unfold pd16 at h
  simp
  omega
theorem pd16_off (n : Nat) : ((((n + pd16 n : Nat) : Int) % 16) != 0) = false := by
  unfold pd16
  simp
  omega

set_option maxRecDepth 100000 in
set_option maxHeartbeats 1000000 in
theorem fillR_any (vb : Value) (b : List UInt8) (hl : b.length ≤ 100000000000) (w : World) (hb : Rd w vb b) :
    Calls Tryd.prog 59 #[vb] w fun e w' => ∃ r, e = .returned r ∧ New 5 w r (flL b) w' := by
  have HL : Hid (b.length ≤ 100000000000) := hl
  have HL0 : Hid (([] : List UInt8).length + b.length ≤ 140737488355328) := by show _ ≤ _; simp; omega
  have hN0 : New 5 w (.slice none 0 0) [] w := New.start w
  clear hl
  go_enter Tryd.func59, Tryd.ntmps59
  go_wp2_with (at_builtin; go_must (refine wpList_append_new (w := w) rfl _ _ 40 rfl 5 Tryd.underlying40 infoU8 _ _ rfl hN0 _ _ rfl hb HL0.out ?_))
  intro v1 w1 hN1 _
  go_wp2
  go_loopw [3] (fun v wx => ∃ j : Nat, j ≤ pd16 b.length ∧ New 5 w v (flJ b j) wx) (fun v _ => pd16 b.length + b.length - lenOf v)
  case atStart => exact ⟨0, Nat.zero_le _, by simpa [flJ] using hN1⟩
  case round =>
    obtain ⟨j, hj, hN⟩ := hrel
    clear hN1
    obtain ⟨a, c, rfl, hc, hm, -, -⟩ := id hN.rd
    unfold maxLen at hm
    have hlen : (flJ b j).length = b.length + j := flJ_length b j
    have HS : Hid (b.length + j + 1 ≤ 140737488355328) := by show _ ≤ _; have := HL.out; have := pd16_lt b.length; omega
    obtain ⟨m, hm2⟩ : ∃ m : Nat, m = b.length + j := ⟨_, rfl⟩
    by_cases hlt : j < pd16 b.length
    · have hd := pd16_on b.length j hlt
      rw [← hm2] at hd
      rw [hlen, ← hm2] at hN ⊢
      have HN : Hid (New _ _ _ _ _) := hN
      have HM : Hid _ := hm2
      clear hN hm hlen hm2 hc
      go_wp2_with (at_builtin; go_must (refine wpList_append_new (w := w) rfl _ _ 40 rfl 5 Tryd.underlying40 infoU8 _ _ rfl (HN.out.alloc _) _ _ rfl (Rd.lit1 (0 : UInt8) rfl) (by rw [flJ_length]; exact HS.out) ?_))
      intro v2 w2 hN2 _
      rw [flJ_next] at hN2
      obtain ⟨a2, c2, rfl, -, -, -, -⟩ := id hN2.rd
      go_wp2
      go_roundw
      case rel => exact ⟨j + 1, by omega, hN2⟩
      case measure => have := HM.out; simp [lenOf, flJ_length]; omega
    · have hje : j = pd16 b.length := by omega
      have hd := pd16_off b.length
      rw [← hje, ← hm2] at hd
      rw [hlen, ← hm2] at hN ⊢
      have HN : Hid (New _ _ _ _ _) := hN
      have HF : Hid (flL b = flJ b j) := by show _ = _; rw [hje]; rfl
      clear hN hm hlen
      go_wp2
      go_ret
      exact ⟨_, rfl, by rw [HF.out]; exact HN.out⟩

set_option maxRecDepth 100000 in
set_option maxHeartbeats 2000000 in
theorem tagR_any (vk vn va vb : Value) (k n a b : List UInt8) (hk32 : k.length = 32) (hn12 : n.length = 12) (hla : a.length ≤ 3000000) (hlb : b.length ≤ 3000000) (w : World) (hk : Rd w vk k) (hn : Rd w vn n) (ha : Rd w va a) (hb : Rd w vb b) :
    Calls Tryd.prog 52 #[vk, vn, va, vb] w fun e w' => ∃ r, e = .returned r ∧ New 5 w r (tgL k n a b) w' := by
  have HK : Hid (k.length = 32) := hk32
  have HN : Hid (n.length = 12) := hn12
  have HA : Hid (a.length ≤ 3000000) := hla
  have HB : Hid (b.length ≤ 3000000) := hlb
  have HP : Hid (pd16 a.length < 16 ∧ pd16 b.length < 16) := ⟨pd16_lt _, pd16_lt _⟩
  obtain ⟨aa, ca, rfl, hca, hma, -, -⟩ := id ha
  obtain ⟨ab, cb, rfl, hcb, hmb, -, -⟩ := id hb
  unfold maxLen at hma hmb
  have HK0 : Hid (Rd w vk k) := hk
  have HN0 : Hid (Rd w vn n) := hn
  clear hk32 hn12 hla hlb
  go_enter Tryd.func52, Tryd.ntmps52
  go_wp2_with fail
  refine (fillR_any _ a (by have := HA.out; omega) _ ha).mono ?_
  rintro e w1 ⟨v1, rfl, hN1⟩
  replace hk := hk.kept hN1.2
  replace hn := hn.kept hN1.2
  replace hb := hb.kept hN1.2
  go_wp2_with fail
  refine (fillR_any _ b (by have := HB.out; omega) _ hb).mono ?_
  rintro e w2 ⟨v2, rfl, hN2⟩
  replace hk := hk.kept hN2.2
  replace hn := hn.kept hN2.2
  replace hN1 := hN1.kept hN2.2
  have h2 := hN2.rd
  clear hN2 ha hb
  have HL : Hid ((flL a).length + (flL b).length ≤ 140737488355328) := by show _ ≤ _; have := HA.out; have := HB.out; have := HP.out; rw [flL_length, flL_length]; omega
  go_wp2_with (at_builtin; go_must (refine wpList_append_new (w := w) rfl _ _ 40 rfl 5 Tryd.underlying40 infoU8 _ _ rfl hN1 _ _ rfl h2 HL.out ?_))
  intro v3 w3 hN3 hg3
  replace hk := HK0.out.kept hN3.2
  replace hn := HN0.out.kept hN3.2
  clear h2 hg3 hN1 HL
  go_wp2_with fail
  refine (refstore_k a.length (by have := HA.out; omega) 8 8 (by decide) (by omega) _).mono ?_
  rintro e w4 ⟨v4, rfl, hN4⟩
  replace hk := hk.kept hN4.2
  replace hn := hn.kept hN4.2
  replace hN3 := hN3.kept hN4.2
  have h4 : Rd w4 v4 (st8 a.length) := hN4.rd
  have HL : Hid ((flL a ++ flL b).length + (st8 a.length).length ≤ 140737488355328) := by show _ ≤ _; have := HA.out; have := HB.out; have := HP.out; rw [List.length_append, flL_length, flL_length, st8_length]; omega
  clear hN4
  go_wp2_with (at_builtin; go_must (refine wpList_append_new (w := w) rfl _ _ 40 rfl 5 Tryd.underlying40 infoU8 _ _ rfl hN3 _ _ rfl h4 HL.out ?_))
  intro v5 w5 hN5 hg5
  replace hk := HK0.out.kept hN5.2
  replace hn := HN0.out.kept hN5.2
  clear h4 hg5 hN3 HL
  go_wp2_with fail
  refine (refstore_k b.length (by have := HB.out; omega) 8 8 (by decide) (by omega) _).mono ?_
  rintro e w6 ⟨v6, rfl, hN6⟩
  replace hk := hk.kept hN6.2
  replace hn := hn.kept hN6.2
  replace hN5 := hN5.kept hN6.2
  have h6 : Rd w6 v6 (st8 b.length) := hN6.rd
  have HL : Hid ((flL a ++ (flL b ++ st8 a.length)).length + (st8 b.length).length ≤ 140737488355328) := by show _ ≤ _; have := HA.out; have := HB.out; have := HP.out; rw [List.length_append, List.length_append, flL_length, flL_length, st8_length, st8_length]; omega
  clear hN6
  go_wp2_with (at_builtin; go_must (refine wpList_append_new (w := w) rfl _ _ 40 rfl 5 Tryd.underlying40 infoU8 _ _ rfl hN5 _ _ rfl h6 HL.out ?_))
  intro v7 w7 hN7 hg7
  replace hk := HK0.out.kept hN7.2
  replace hn := HN0.out.kept hN7.2
  have HI : Hid (New 5 w v7 (tgI a b) w7) := by
    show New _ _ _ _ _
    have e : tgI a b = flL a ++ (flL b ++ (st8 a.length ++ st8 b.length)) := by simp [tgI]
    rw [e]
    exact hN7
  clear h6 hg7 hN5 HL hN7
  go_wp2_with fail
  refine (blockR_any _ _ k n 0 _ rfl (by decide) _ hk hn HK.out HN.out).mono ?_
  rintro e w8 ⟨v8, rfl, hN8⟩
  have h8 := hN8.rd
  have hI := HI.out.kept hN8.2
  obtain ⟨a8, c8, rfl, hc8, hm8, -, -⟩ := id h8
  rw [bkL_length] at h8 hc8 ⊢
  have ht := h8.take (n := 32) (by decide)
  have HT : Hid (((bkL k 0 n).take 32).length = 32) := by show _ = _; rw [List.length_take, bkL_length]; rfl
  have HTI : Hid ((tgI a b).length ≤ 7000000) := by show _ ≤ _; have := HA.out; have := HB.out; have := HP.out; rw [tgI_length]; omega
  have HE : Hid (tgL k n a b = mcP ((bkL k 0 n).take 32) (tgI a b)) := rfl
  generalize (bkL k 0 n).take 32 = K at ht HT HE
  generalize tgI a b = I at hI HTI HE
  clear h8 hN8 HI
  go_wp2_with fail
  refine (mac8_any _ _ K I HT.out HTI.out _ ht hI.rd).mono ?_
  rintro e w9 ⟨v9, rfl, hN9⟩
  rw [← HE.out] at hN9
  go_wp2
  go_ret
  exact ⟨_, rfl, hN9.from hI.2⟩
end Go.Proofs.YtliiofjcghdjoaaDoor
