/- What the law CurveShares answers at every input: the walk. -/
import Derived.Test.YthokfcmnijpkhaaV06h
import Derived.Test.YthokfcmnijpkhaaRef06c
namespace Go.Proofs.Ythokfcmnijpkhaa
open Go.ChangeShapes Go.WideShapes Go.ChangeAt Go.RowKit
set_option linter.unusedSimpArgs false
set_option linter.unusedVariables false

/-- What a call that answers bytes and an error answers: both as told, in new memory or none. -/
def Told (w : World) (l : List UInt8) (c : Int) (e : Ending) (w' : World) : Prop := ∃ v, e = .returned (.tuple #[v, .int .i64 c]) ∧ Rd w' v l ∧ Below w.heap.size w w'
theorem Told.new {t : TypeId} {w w' : World} {v : Value} {l : List UInt8} (h : New t w v l w') : Told w l 0 (.returned (.tuple #[v, .int .i64 0])) w' := ⟨v, rfl, h.rd, h.2⟩
theorem Told.none {w w' : World} {c : Int} (h : Below w.heap.size w w') : Told w [] c (.returned (.tuple #[.slice none 0 0, .int .i64 c])) w' := ⟨_, rfl, Rd.nil _, h⟩
theorem shared_told (vk vu : Value) (k u : List UInt8) : ∃ (l : List UInt8) (c : Int), ∀ w, Rd w vk k → Rd w vu u →
    Calls Try.prog 12 #[vk, vu] w (Told w l c) ∧ Calls Try.prog 13 #[vk, vu] w (Told w l c) := by
  by_cases h : k.length = 32 ∧ u.length = 32
  · by_cases hz : ∀ x ∈ enL (scN k u), x = 0
    · exact ⟨[], 11, fun w hk hu => ⟨(shared_zero vk vu k u w hk hu h.1 h.2 hz).mono fun e w' ⟨a, b⟩ => a ▸ Told.none b, (sharedR_zero vk vu k u w hk hu h.1 h.2 hz).mono fun e w' ⟨a, b⟩ => a ▸ Told.none b⟩⟩
    · exact ⟨enL (scN k u), 0, fun w hk hu => ⟨(shared_some vk vu k u w hk hu h.1 h.2 hz).mono fun e w' ⟨r, a, b⟩ => a ▸ Told.new b, (sharedR_some vk vu k u w hk hu h.1 h.2 hz).mono fun e w' ⟨r, a, b⟩ => a ▸ Told.new b⟩⟩
  · exact ⟨[], 1, fun w hk hu => ⟨(shared_arg vk vu k u w hk hu h).mono fun e w' ⟨a, b⟩ => a ▸ Told.none b, (sharedR_arg vk vu k u w hk hu h).mono fun e w' ⟨a, b⟩ => a ▸ b ▸ Told.none (Below.refl _ _)⟩⟩
theorem public_told (vk : Value) (k : List UInt8) : ∃ (l : List UInt8) (c : Int), ∀ w, Rd w vk k →
    Calls Try.prog 14 #[vk] w (Told w l c) ∧ Calls Try.prog 15 #[vk] w (Told w l c) := by
  by_cases h : k.length = 32
  · refine ⟨enL (scN k key9), 0, fun w hk => ⟨(public_any vk k w hk).mono fun e w' p => ?_, (publicR_any vk k w hk).mono fun e w' p => ?_⟩⟩
    · obtain ⟨r, a, b⟩ := p.1 h
      exact a ▸ Told.new b
    · obtain ⟨r, a, b⟩ := p.1 h
      exact a ▸ Told.new b
  · exact ⟨[], 1, fun w hk => ⟨(public_any vk k w hk).mono fun e w' p => (p.2 h).1 ▸ Told.none (p.2 h).2, (publicR_any vk k w hk).mono fun e w' p => (p.2 h).1 ▸ Told.none (p.2 h).2⟩⟩

set_option maxRecDepth 100000 in
set_option maxHeartbeats 4000000 in
theorem shares_walk (vk vu : Value) (k u : List UInt8) (w : World) (hk : Rd w vk k) (hu : Rd w vu u) :
    Calls Try.prog 4 #[vk, vu] w fun e w' => e = .returned (.bool true) ∧ Below w.heap.size w w' := by
  obtain ⟨L, c, hS⟩ := shared_told vk vu k u
  obtain ⟨M, d, hP⟩ := public_told vk k
  have HS : Hid _ := hS
  have HP : Hid _ := hP
  clear hS hP
  go_enter Try.func4, Try.ntmps4
  go_wp2_with fail
  refine (awake_any _).mono ?_
  rintro e wa ⟨rfl, bn⟩
  replace hk := hk.kept bn
  replace hu := hu.kept bn
  have hbw := bn
  clear bn
  go_wp2_with fail
  refine (HS.out _ hk hu).1.mono ?_
  rintro e w1 ⟨v1, rfl, h1, bn⟩
  replace hk := hk.kept bn
  replace hu := hu.kept bn
  replace hbw := stepB hbw bn
  clear bn
  go_wp2_with fail
  refine (HS.out _ hk hu).2.mono ?_
  rintro e w2 ⟨v2, rfl, h2, bn⟩
  replace hk := hk.kept bn
  replace h1 := h1.kept bn
  replace hbw := stepB hbw bn
  clear bn hu HS
  go_wp2_with fail
  refine (HP.out _ hk).1.mono ?_
  rintro e w3 ⟨v3, rfl, h3, bn⟩
  replace hk := hk.kept bn
  replace h1 := h1.kept bn
  replace h2 := h2.kept bn
  replace hbw := stepB hbw bn
  clear bn
  go_wp2_with fail
  refine (HP.out _ hk).2.mono ?_
  rintro e w4 ⟨v4, rfl, h4, bn⟩
  replace h1 := h1.kept bn
  replace h2 := h2.kept bn
  replace h3 := h3.kept bn
  replace hbw := stepB hbw bn
  clear bn hk HP
  have hcv1 := conv_any h1
  have hcv2 := conv_any h2
  have hcv3 := conv_any h3
  have hcv4 := conv_any h4
  clear h1 h2 h3 h4
  go_wp2
  go_ret
  exact ⟨rfl, hbw⟩
end Go.Proofs.Ythokfcmnijpkhaa
