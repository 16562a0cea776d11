/- Numbers that came, as bits of two words: contracts of package window, second part. -/
import Derived.Test.YtmgkocoemgpgbaaWn20a
namespace Go.Proofs.Ytmgkocoemgpgbaa
open Go.ChangeShapes Go.WideShapes Go.ChangeAt Go.RowKit
set_option linter.unusedSimpArgs false
set_option linter.unusedVariables false

/-- A window in block g to which these numbers came. -/
def WnP (g : Nat) (l : List Nat) (w : World) : Prop := ∃ a b, Wn l a b ∧ tpN l < 18446744073709551616 ∧ BlkAt g 27 (wnC (tpN l) a b) w
theorem WnP.chg {S : Nat → Prop} {g : Nat} {l : List Nat} {w w' : World} (h : WnP g l w) (c : Chg S w w') (hS : ¬ S g) : WnP g l w' := by
  obtain ⟨a, b, h1, h2, h3⟩ := h
  exact ⟨a, b, h1, h2, h3.chg c hS⟩
theorem WnP.kept {g : Nat} {l : List Nat} {w w' : World} (h : WnP g l w) (c : Below w.heap.size w w') : WnP g l w' := h.chg (Chg.of_below (S := fun _ => False) c) id
theorem WnP.drew {g : Nat} {l : List Nat} {w : World} (h : WnP g l w) : WnP g l w.drew := h
theorem WnP.lt {g : Nat} {l : List Nat} {w : World} (h : WnP g l w) : g < w.heap.size := by
  obtain ⟨_, _, _, _, h⟩ := h
  exact h.lt

set_option maxRecDepth 100000 in
set_option maxHeartbeats 1000000 in
theorem wcheck_any (g : Nat) (l : List Nat) (n : Nat) (N : Int) (hN : N = (n : Int)) (hn : n < 18446744073709551616) (w : World) (hW : WnP g l w) :
    Calls Try.prog 12 #[.pointer (some ⟨g, 0, none⟩), .int .u64 N] w fun e w' => e = .returned (.int .i64 (cmE l n)) ∧ w' = w := by
  subst hN
  obtain ⟨a, b, hw, hT, hB⟩ := hW
  have hc0 : w.cell? ⟨g, 0, none⟩ = some (.int .u64 ((tpN l : Nat) : Int)) := by rw [hB.cell]; rfl
  have HB : Hid _ := hB
  have HW : Hid _ := hw
  by_cases h1 : tpN l < n
  · have HC : Hid (cmE l n = 0) := cm_above h1
    generalize tpN l = t at hc0 hT h1
    have d1 : decide ((t : Int) < (n : Int)) = true := decide_eq_true (by omega)
    have dN : decide (t < n) = true := decide_eq_true h1
    clear hB hw
    go_enter Try.func12, Try.ntmps12
    go_wp2
    go_ret
    exact ⟨retI HC.out.symm, rfl⟩
  · have hck := hw.check (n := n) (by omega)
    obtain ⟨D, hD⟩ : ∃ D : Nat, D = tpN l - n := ⟨_, rfl⟩
    rw [← hD] at hck
    have HCk : Hid _ := hck
    have d1 : decide (((tpN l : Nat) : Int) < (n : Int)) = false := decide_eq_false (by omega)
    have dN : decide (tpN l < n) = false := decide_eq_false h1
    have e1 : IntKind.u64.wrap (((tpN l : Nat) : Int) - (n : Int)) = (D : Int) := by rw [IntKind.wrap_u64]; omega
    by_cases h2 : 128 ≤ D
    · have HC : Hid (cmE l n = 43) := (by rw [hck, if_pos h2] : cmE l n = 43)
      have d2 : decide ((128 : Int) ≤ (D : Int)) = true := decide_eq_true (by omega)
      generalize tpN l = t at hc0 d1 dN e1
      clear hB hw hck hD HCk HB HW h1 hT
      go_enter Try.func12, Try.ntmps12
      go_wp2
      go_ret
      exact ⟨retI HC.out.symm, rfl⟩
    · have HC : Hid (cmE l n = if wbF a b D = true then 43 else 0) := (by rw [hck, if_neg h2] : cmE l n = if wbF a b D = true then 43 else 0)
      have d2 : decide ((128 : Int) ≤ (D : Int)) = false := decide_eq_false (by omega)
      have hD128 : D < 128 := by omega
      obtain ⟨r, hr⟩ : ∃ r, r = cmE l n := ⟨_, rfl⟩
      rw [← hr] at HC ⊢
      have hhas := has20_any g (tpN l) a b D _ rfl hw.lo hw.hi hD128 w hB
      have HH : Hid _ := hhas
      generalize tpN l = t at hc0 d1 dN e1
      obtain ⟨q, hq⟩ : ∃ q, q = wbF a b D := ⟨_, rfl⟩
      rw [← hq] at HC HH
      clear hB hw hck hD HCk HB HW h1 hT hr hhas hq h2
      go_enter Try.func12, Try.ntmps12
      go_wp2_with fail
      refine Calls.mono HH.out ?_
      rintro e w1 ⟨rfl, rfl⟩
      cases q
      · go_wp2
        go_ret
        exact ⟨retI (by rw [HC.out]; rfl), rfl⟩
      · go_wp2
        go_ret
        exact ⟨retI (by rw [HC.out]; rfl), rfl⟩

set_option maxRecDepth 100000 in
set_option maxHeartbeats 1000000 in
theorem wtop_any (g : Nat) (l : List Nat) (w : World) (hW : WnP g l w) :
    Calls Try.prog 10 #[.pointer (some ⟨g, 0, none⟩)] w fun e w' => e = .returned (.tuple #[.int .u64 ((tpN l : Nat) : Int), .bool (decide (0 < l.length))]) ∧ w' = w := by
  obtain ⟨a, b, hw, hT, hB⟩ := hW
  have hc0 : w.cell? ⟨g, 0, none⟩ = some (.int .u64 ((tpN l : Nat) : Int)) := by rw [hB.cell]; rfl
  have hs := hw.some
  have hhas := has20_any g (tpN l) a b 0 0 rfl hw.lo hw.hi (by decide) w hB
  have HH : Hid _ := hhas
  clear hB hhas
  by_cases h0 : 0 < l.length
  · rw [hs, decide_eq_true h0] at HH
    rw [decide_eq_true h0]
    generalize tpN l = t at hc0 hT
    clear hs hw h0
    go_enter Try.func10, Try.ntmps10
    go_wp2_with fail
    refine Calls.mono HH.out ?_
    rintro e w1 ⟨rfl, rfl⟩
    go_wp2
    go_ret2
    exact ⟨rfl, rfl⟩
  · rw [hs, decide_eq_false h0] at HH
    have hl : l = [] := List.eq_nil_of_length_eq_zero (by omega)
    subst hl
    have HT : Hid (tpN [] = 0) := (rfl : tpN [] = 0)
    rw [decide_eq_false h0, HT.out] at *
    clear hs hw h0
    go_enter Try.func10, Try.ntmps10
    go_wp2_with fail
    refine Calls.mono HH.out ?_
    rintro e w1 ⟨rfl, rfl⟩
    go_wp2
    go_ret2
    exact ⟨rfl, rfl⟩

set_option maxHeartbeats 1000000 in
theorem wcheck_none (n : Nat) (w : World) :
    Calls Try.prog 12 #[.pointer none, .int .u64 (n : Int)] w fun e w' => e = .returned (.int .i64 1) ∧ w' = w := by
  go_enter Try.func12, Try.ntmps12
  go_wp2
  go_ret
  exact ⟨rfl, rfl⟩
set_option maxHeartbeats 1000000 in
theorem wmark_none (n : Nat) (w : World) :
    Calls Try.prog 8 #[.pointer none, .int .u64 (n : Int)] w fun e w' => e = .returned (.int .i64 1) ∧ w' = w := by
  go_enter Try.func8, Try.ntmps8
  go_wp2_with fail
  refine (wcheck_none n _).mono ?_
  rintro e w1 ⟨rfl, rfl⟩
  go_wp2
  go_ret
  exact ⟨rfl, rfl⟩
set_option maxHeartbeats 1000000 in
theorem wtop_none (w : World) :
    Calls Try.prog 10 #[.pointer none] w fun e w' => e = .returned (.tuple #[.int .u64 0, .bool false]) ∧ w' = w := by
  go_enter Try.func10, Try.ntmps10
  go_wp2
  go_ret2
  exact ⟨rfl, rfl⟩
end Go.Proofs.Ytmgkocoemgpgbaa
