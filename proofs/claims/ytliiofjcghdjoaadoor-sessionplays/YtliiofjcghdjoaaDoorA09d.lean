/- What sealing, opening and tags answer at every input, whole: of the program and of the document's own. -/
import Derived.Test.YtliiofjcghdjoaaDoorA09c
import Derived.Test.YtliiofjcghdjoaaDoorRef09b
namespace Go.Proofs.YtliiofjcghdjoaaDoor
open Go.ChangeShapes Go.WideShapes Go.ChangeAt Go.RowKit
set_option linter.unusedSimpArgs false
set_option linter.unusedVariables false

/-- A key and a nonce have their sizes. -/
abbrev fitN (k n : List UInt8) : Prop := k.length = 32 ∧ n.length = 12
/-- What sealing answers, and its error. -/
def seA (k n a t : List UInt8) : List UInt8 × Int := if fitN k n then (seL k n a t, 0) else ([], 1)
def tgA (k n a b : List UInt8) : List UInt8 × Int := if fitN k n then (tgL k n a b, 0) else ([], 1)
def opA (k n a s : List UInt8) : List UInt8 × Int :=
  if fitN k n then
    if s.length < 16 then ([], 13) else if tgL k n a (s.take (s.length - 16)) = s.drop (s.length - 16) then (smL k 1 n (s.take (s.length - 16)), 0) else ([], 10)
  else ([], 1)
theorem seA_fit {k n : List UInt8} (h : fitN k n) (a t : List UInt8) : seA k n a t = (seL k n a t, 0) := if_pos h
theorem seA_no {k n : List UInt8} (h : ¬ fitN k n) (a t : List UInt8) : seA k n a t = ([], 1) := if_neg h
theorem tgA_fit {k n : List UInt8} (h : fitN k n) (a t : List UInt8) : tgA k n a t = (tgL k n a t, 0) := if_pos h
theorem tgA_no {k n : List UInt8} (h : ¬ fitN k n) (a t : List UInt8) : tgA k n a t = ([], 1) := if_neg h
theorem opA_no {k n : List UInt8} (h : ¬ fitN k n) (a s : List UInt8) : opA k n a s = ([], 1) := if_neg h
theorem opA_short {k n : List UInt8} (h : fitN k n) (a s : List UInt8) (hs : s.length < 16) : opA k n a s = ([], 13) := by
  unfold opA
  rw [if_pos h, if_pos hs]
theorem opA_ok {k n : List UInt8} (h : fitN k n) (a c t : List UInt8) (ht : t.length = 16) (he : tgL k n a c = t) : opA k n a (c ++ t) = (smL k 1 n c, 0) := by
  have e : (c ++ t).length - 16 = c.length := by rw [List.length_append]; omega
  unfold opA
  rw [if_pos h, if_neg (by rw [List.length_append]; omega), e, List.take_left, List.drop_left, if_pos he]
theorem opA_bad {k n : List UInt8} (h : fitN k n) (a c t : List UInt8) (ht : t.length = 16) (he : tgL k n a c ≠ t) : opA k n a (c ++ t) = ([], 10) := by
  have e : (c ++ t).length - 16 = c.length := by rw [List.length_append]; omega
  unfold opA
  rw [if_pos h, if_neg (by rw [List.length_append]; omega), e, List.take_left, List.drop_left, if_neg he]
/-- What was sealed has these parts. -/
theorem seL_parts (k n a t : List UInt8) : ∃ c g, seL k n a t = c ++ g ∧ c.length = t.length ∧ g.length = 16 ∧ tgL k n a c = g ∧ smL k 1 n c = t :=
  ⟨smL k 1 n t, _, rfl, smL_length k 1 n t, mcP_length _ _, rfl, smL_twice k 1 n t⟩
theorem New.noneB {e : TypeId} {w w' : World} (h : Below w.heap.size w w') : New e w (.slice none 0 0) [] w' := ⟨World.ownsRow_nil _ _ _ _, h⟩
theorem parts16 (s : List UInt8) (h : ¬ s.length < 16) : ∃ c t, s = c ++ t ∧ t.length = 16 :=
  ⟨s.take (s.length - 16), s.drop (s.length - 16), (List.take_append_drop _ _).symm, by rw [List.length_drop]; omega⟩

theorem atag_all (vk vn va vb : Value) (k n a b : List UInt8) (hla : a.length ≤ 3000000) (hlb : b.length ≤ 3000000) (w : World) (hP : PlT w) (hT : KpT w) (hk : Rd w vk k) (hn : Rd w vn n) (ha : Rd w va a) (hb : Rd w vb b) :
    Calls Tryd.prog 57 #[vk, vn, va, vb] w fun e w' => ∃ r, e = .returned (.tuple #[r, .int .i64 (tgA k n a b).2]) ∧ New 5 w r (tgA k n a b).1 w' := by
  by_cases h : fitN k n
  · rw [tgA_fit h]
    exact atag_any vk vn va vb k n a b h.1 h.2 hla hlb w hP hT hk hn ha hb
  · rw [tgA_no h]
    refine (atag_arg vk vn va vb k n h w hk hn).mono ?_
    rintro e w' ⟨rfl, rfl⟩
    exact ⟨_, rfl, New.start _⟩

theorem aseal_all (vk vn va vb : Value) (k n a b : List UInt8) (hla : a.length ≤ 3000000) (hlb : b.length ≤ 3000000) (w : World) (hP : PlT w) (hT : KpT w) (hk : Rd w vk k) (hn : Rd w vn n) (ha : Rd w va a) (hb : Rd w vb b) :
    Calls Tryd.prog 49 #[vk, vn, va, vb] w fun e w' => ∃ r, e = .returned (.tuple #[r, .int .i64 (seA k n a b).2]) ∧ New 5 w r (seA k n a b).1 w' := by
  by_cases h : fitN k n
  · rw [seA_fit h]
    exact aseal_any vk vn va vb k n a b h.1 h.2 hla hlb w hP hT hk hn ha hb
  · rw [seA_no h]
    refine (aseal_arg vk vn va vb k n h w hk hn).mono ?_
    rintro e w' ⟨rfl, rfl⟩
    exact ⟨_, rfl, New.start _⟩

theorem sealR_all (vk vn va vb : Value) (k n a b : List UInt8) (hla : a.length ≤ 3000000) (hlb : b.length ≤ 3000000) (w : World) (hk : Rd w vk k) (hn : Rd w vn n) (ha : Rd w va a) (hb : Rd w vb b) :
    Calls Tryd.prog 40 #[vk, vn, va, vb] w fun e w' => ∃ r, e = .returned (.tuple #[r, .int .i64 (seA k n a b).2]) ∧ New 5 w r (seA k n a b).1 w' := by
  by_cases h : fitN k n
  · rw [seA_fit h]
    exact sealR_any vk vn va vb k n a b h.1 h.2 hla hlb w hk hn ha hb
  · rw [seA_no h]
    refine (sealR_arg vk vn va vb k n h w hk hn).mono ?_
    rintro e w' ⟨rfl, rfl⟩
    exact ⟨_, rfl, New.start _⟩

theorem aopen_all (vk vn va vb : Value) (k n a s : List UInt8) (hla : a.length ≤ 3000000) (hlb : s.length ≤ 3000000) (w : World) (hP : PlT w) (hT : KpT w) (hk : Rd w vk k) (hn : Rd w vn n) (ha : Rd w va a) (hb : Rd w vb s) :
    Calls Tryd.prog 54 #[vk, vn, va, vb] w fun e w' => ∃ r, e = .returned (.tuple #[r, .int .i64 (opA k n a s).2]) ∧ New 5 w r (opA k n a s).1 w' := by
  by_cases h : fitN k n
  · by_cases h16 : s.length < 16
    · rw [opA_short h _ _ h16]
      refine (aopen_short vk vn va vb k n s h.1 h.2 h16 w hk hn hb).mono ?_
      rintro e w' ⟨rfl, rfl⟩
      exact ⟨_, rfl, New.start _⟩
    · obtain ⟨c, t, rfl, ht⟩ := parts16 s h16
      rw [List.length_append] at hlb
      refine (aopen_any vk vn va vb k n a c t h.1 h.2 hla (by omega) ht w hP hT hk hn ha hb).mono ?_
      rintro e w' ⟨h1, h2⟩
      by_cases he : tgL k n a c = t
      · rw [opA_ok h a c t ht he]
        exact h1 he
      · rw [opA_bad h a c t ht he]
        obtain ⟨rfl, hb⟩ := h2 he
        exact ⟨_, rfl, New.noneB hb⟩
  · rw [opA_no h]
    refine (aopen_arg vk vn va vb k n h w hk hn).mono ?_
    rintro e w' ⟨rfl, rfl⟩
    exact ⟨_, rfl, New.start _⟩

theorem openR_all (vk vn va vb : Value) (k n a s : List UInt8) (hla : a.length ≤ 3000000) (hlb : s.length ≤ 3000000) (w : World) (hk : Rd w vk k) (hn : Rd w vn n) (ha : Rd w va a) (hb : Rd w vb s) :
    Calls Tryd.prog 46 #[vk, vn, va, vb] w fun e w' => ∃ r, e = .returned (.tuple #[r, .int .i64 (opA k n a s).2]) ∧ New 5 w r (opA k n a s).1 w' := by
  by_cases h : fitN k n
  · by_cases h16 : s.length < 16
    · rw [opA_short h _ _ h16]
      refine (openR_short vk vn va vb k n s h.1 h.2 h16 w hk hn hb).mono ?_
      rintro e w' ⟨rfl, rfl⟩
      exact ⟨_, rfl, New.start _⟩
    · obtain ⟨c, t, rfl, ht⟩ := parts16 s h16
      rw [List.length_append] at hlb
      refine (openR_any vk vn va vb k n a c t h.1 h.2 hla (by omega) ht w hk hn ha hb).mono ?_
      rintro e w' ⟨h1, h2⟩
      by_cases he : tgL k n a c = t
      · rw [opA_ok h a c t ht he]
        exact h1 he
      · rw [opA_bad h a c t ht he]
        obtain ⟨rfl, hb⟩ := h2 he
        exact ⟨_, rfl, New.noneB hb⟩
  · rw [opA_no h]
    refine (openR_arg vk vn va vb k n h w hk hn).mono ?_
    rintro e w' ⟨rfl, rfl⟩
    exact ⟨_, rfl, New.start _⟩
end Go.Proofs.YtliiofjcghdjoaaDoor
