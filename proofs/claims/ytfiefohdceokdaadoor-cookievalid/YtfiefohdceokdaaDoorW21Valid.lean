/- What the law CookieValid answers at every input: the walk. -/
import Derived.Test.YtfiefohdceokdaaDoorAw21
import Derived.Test.YtfiefohdceokdaaDoorRef21
namespace Go.Proofs.YtfiefohdceokdaaDoor
open Go.ChangeShapes Go.WideShapes Go.ChangeAt Go.RowKit
set_option linter.unusedSimpArgs false
set_option linter.unusedVariables false

set_option maxRecDepth 100000 in
set_option maxHeartbeats 4000000 in
theorem valid_walk (vs vg vm : Value) (s src oth sg mac : List UInt8) (made now p : Nat) (h1 : made < 18446744073709551616) (h2 : now < 18446744073709551616) (h3 : p < 18446744073709551616) (hm : src.length ≤ maxLen) (ho : oth.length ≤ maxLen) (w : World) (hr : Rd w vs s) (hg : Rd w vg sg) (hv : Rd w vm mac) (ht : Tabs w) :
    Calls Tryd.prog 4 #[vs, .int .u64 (made : Int), .int .u64 (now : Int), .int .u64 (p : Int), .string ⟨src.toArray⟩, .string ⟨oth.toArray⟩, vg, vm] w fun e w' => e = .returned (.bool true) ∧ Below w.heap.size w w' := by
  have hsz : (⟨src.toArray⟩ : ByteArray).size = src.length := by simp [ByteArray.size]
  have hsz2 : (⟨oth.toArray⟩ : ByteArray).size = oth.length := by simp [ByteArray.size]
  obtain ⟨sa, cs, rfl, -, hms, -⟩ := id hr
  obtain ⟨ag, cg, rfl, -, hmg, -⟩ := id hg
  obtain ⟨am, cm, rfl, -, hmm, -⟩ := id hv
  unfold maxLen at hm ho hms hmg hmm
  have HR : Hid (Rd w _ s ∧ Rd w _ sg ∧ Rd w _ mac ∧ Tabs w) := ⟨hr, hg, hv, ht⟩
  clear hr hg hv ht
  have hway : (300 < s.length) ∨ (s.length ≤ 300 ∧ 300 < src.length) ∨ (s.length ≤ 300 ∧ src.length ≤ 300 ∧ 300 < oth.length) ∨ (s.length ≤ 300 ∧ src.length ≤ 300 ∧ oth.length ≤ 300 ∧ 2000 < sg.length) ∨ (s.length ≤ 300 ∧ src.length ≤ 300 ∧ oth.length ≤ 300 ∧ sg.length ≤ 2000 ∧ 100 < mac.length) ∨ (s.length ≤ 300 ∧ src.length ≤ 300 ∧ oth.length ≤ 300 ∧ sg.length ≤ 2000 ∧ mac.length ≤ 100) := by omega
  rcases hway with a1 | ⟨a1, a2⟩ | ⟨a1, a2, a3⟩ | ⟨a1, a2, a3, a4⟩ | ⟨a1, a2, a3, a4, a5⟩ | ⟨a1, a2, a3, a4, a5⟩
  case' inl =>
    have d1 : decide ((300 : Int) < (s.length : Int)) = true := decide_eq_true (by omega)
  case' inr.inl =>
    have d1 : decide ((300 : Int) < (s.length : Int)) = false := decide_eq_false (by omega)
    have d2 : decide ((300 : Int) < (src.length : Int)) = true := decide_eq_true (by omega)
  case' inr.inr.inl =>
    have d1 : decide ((300 : Int) < (s.length : Int)) = false := decide_eq_false (by omega)
    have d2 : decide ((300 : Int) < (src.length : Int)) = false := decide_eq_false (by omega)
    have d3 : decide ((300 : Int) < (oth.length : Int)) = true := decide_eq_true (by omega)
  case' inr.inr.inr.inl =>
    have d1 : decide ((300 : Int) < (s.length : Int)) = false := decide_eq_false (by omega)
    have d2 : decide ((300 : Int) < (src.length : Int)) = false := decide_eq_false (by omega)
    have d3 : decide ((300 : Int) < (oth.length : Int)) = false := decide_eq_false (by omega)
    have d4 : decide ((2000 : Int) < (sg.length : Int)) = true := decide_eq_true (by omega)
  case' inr.inr.inr.inr.inl =>
    have d1 : decide ((300 : Int) < (s.length : Int)) = false := decide_eq_false (by omega)
    have d2 : decide ((300 : Int) < (src.length : Int)) = false := decide_eq_false (by omega)
    have d3 : decide ((300 : Int) < (oth.length : Int)) = false := decide_eq_false (by omega)
    have d4 : decide ((2000 : Int) < (sg.length : Int)) = false := decide_eq_false (by omega)
    have d5 : decide ((100 : Int) < (mac.length : Int)) = true := decide_eq_true (by omega)
  rotate_left 5
  · have d1 : decide ((300 : Int) < (s.length : Int)) = false := decide_eq_false (by omega)
    have d2 : decide ((300 : Int) < (src.length : Int)) = false := decide_eq_false (by omega)
    have d3 : decide ((300 : Int) < (oth.length : Int)) = false := decide_eq_false (by omega)
    have d4 : decide ((2000 : Int) < (sg.length : Int)) = false := decide_eq_false (by omega)
    have d5 : decide ((100 : Int) < (mac.length : Int)) = false := decide_eq_false (by omega)
    have HL : Hid (s.length ≤ 100000 ∧ src.length ≤ 100000 ∧ oth.length ≤ 100000 ∧ sg.length ≤ 100000) := ⟨by omega, by omega, by omega, by omega⟩
    have HN : Hid (made < 18446744073709551616 ∧ now < 18446744073709551616 ∧ p < 18446744073709551616) := ⟨h1, h2, h3⟩
    have HE : Hid (epN made p < 18446744073709551616) := (by have := epN_le made p; omega : epN made p < 18446744073709551616)
    clear a1 a2 a3 a4 a5 h1 h2 h3
    go_enter Tryd.func4, Tryd.ntmps4
    go_wp2_with fail
    refine (awake_any w HR.out.2.2.2).mono ?_
    rintro e wa ⟨rfl, ba⟩
    have HA : Hid (Below w.heap.size w wa ∧ Rd wa _ s ∧ Rd wa _ sg ∧ Rd wa _ mac ∧ Tabs wa) := ⟨ba, HR.out.1.kept ba, HR.out.2.1.kept ba, HR.out.2.2.1.kept ba, HR.out.2.2.2.kept ba⟩
    clear ba HR
    go_wp2_with fail
    refine (epoch21_any made p HN.out.1 HN.out.2.2 _).mono ?_
    rintro e w1 ⟨rfl, rfl⟩
    generalize epN made p = F at HE ⊢
    go_wp2_with fail
    refine (make21_any _ s src F HE.out HL.out.1 HL.out.2.1 _ HA.out.2.1).mono ?_
    rintro e w2 ⟨v2, rfl, hR2, hB2⟩
    have hl2 : (ckL s F src).length = 16 := ckL_length ..
    generalize ckL s F src = C at hR2 hl2
    obtain ⟨a2, c2, rfl, -⟩ := id hR2
    have HA2 : Hid (Below w.heap.size w w2 ∧ Rd w2 _ s ∧ Rd w2 _ sg ∧ Rd w2 _ mac ∧ Tabs w2 ∧ Rd w2 _ C ∧ C.length ≤ 100000) := ⟨stepB HA.out.1 hB2, HA.out.2.1.kept hB2, HA.out.2.2.1.kept hB2, HA.out.2.2.2.1.kept hB2, HA.out.2.2.2.2.kept hB2, hR2, by omega⟩
    clear hR2 hB2 HA hl2
    go_wp2_with fail
    refine (sign21_any _ _ C sg HA2.out.2.2.2.2.2.2 HL.out.2.2.2 _ HA2.out.2.2.2.2.2.1 HA2.out.2.2.1).mono ?_
    rintro e w3 ⟨v3, rfl, hR3, hB3⟩
    generalize sgC C sg = M at hR3
    obtain ⟨a3, c3, rfl, -⟩ := id hR3
    have HA3 : Hid (Below w.heap.size w w3 ∧ Rd w3 _ s ∧ Rd w3 _ sg ∧ Rd w3 _ mac ∧ Tabs w3 ∧ Rd w3 _ M) := ⟨stepB HA2.out.1 hB3, HA2.out.2.1.kept hB3, HA2.out.2.2.1.kept hB3, HA2.out.2.2.2.1.kept hB3, HA2.out.2.2.2.2.1.kept hB3, hR3⟩
    clear hR3 hB3 HA2
    go_wp2_with fail
    refine (cvalid_any _ _ _ s oth sg M now p HN.out.2.1 HN.out.2.2 HL.out.2.2.1 HL.out.2.2.2 _ HA3.out.2.1 HA3.out.2.2.1 HA3.out.2.2.2.2.2 HA3.out.2.2.2.2.1).mono ?_
    rintro e w4 ⟨rfl, hB4⟩
    have HA4 : Hid (Below w.heap.size w w4 ∧ Rd w4 _ s ∧ Rd w4 _ sg ∧ Rd w4 _ mac ∧ Tabs w4 ∧ Rd w4 _ M) := ⟨stepB HA3.out.1 hB4, HA3.out.2.1.kept hB4, HA3.out.2.2.1.kept hB4, HA3.out.2.2.2.1.kept hB4, HA3.out.2.2.2.2.1.kept hB4, HA3.out.2.2.2.2.2.kept hB4⟩
    obtain ⟨q1, hq1⟩ : ∃ q, q = vaB s now p oth sg M := ⟨_, rfl⟩
    rw [← hq1]
    have HQ1 : Hid (q1 = vaB s now p oth sg M) := hq1
    clear hB4 HA3 hq1
    go_wp2_with fail
    refine (valid21_any _ _ _ s oth sg M now p HN.out.2.1 HN.out.2.2 HL.out.1 HL.out.2.2.1 HL.out.2.2.2 _ HA4.out.2.1 HA4.out.2.2.1 HA4.out.2.2.2.2.2).mono ?_
    rintro e w5 ⟨rfl, hB5⟩
    rw [← HQ1.out]
    have HA5 : Hid (Below w.heap.size w w5 ∧ Rd w5 _ s ∧ Rd w5 _ sg ∧ Rd w5 _ mac ∧ Tabs w5) := ⟨stepB HA4.out.1 hB5, HA4.out.2.1.kept hB5, HA4.out.2.2.1.kept hB5, HA4.out.2.2.2.1.kept hB5, HA4.out.2.2.2.2.1.kept hB5⟩
    have hqq : (q1 == q1) = true := by simp
    clear hB5 HA4 HQ1
    go_wp2_with fail
    refine (cvalid_any _ _ _ s src sg mac now p HN.out.2.1 HN.out.2.2 HL.out.2.1 HL.out.2.2.2 _ HA5.out.2.1 HA5.out.2.2.1 HA5.out.2.2.2.1 HA5.out.2.2.2.2).mono ?_
    rintro e w6 ⟨rfl, hB6⟩
    have HA6 : Hid (Below w.heap.size w w6 ∧ Rd w6 _ s ∧ Rd w6 _ sg ∧ Rd w6 _ mac) := ⟨stepB HA5.out.1 hB6, HA5.out.2.1.kept hB6, HA5.out.2.2.1.kept hB6, HA5.out.2.2.2.1.kept hB6⟩
    obtain ⟨q2, hq2⟩ : ∃ q, q = vaB s now p src sg mac := ⟨_, rfl⟩
    rw [← hq2]
    have HQ2 : Hid (q2 = vaB s now p src sg mac) := hq2
    clear hB6 HA5 hq2
    go_wp2_with fail
    refine (valid21_any _ _ _ s src sg mac now p HN.out.2.1 HN.out.2.2 HL.out.1 HL.out.2.1 HL.out.2.2.2 _ HA6.out.2.1 HA6.out.2.2.1 HA6.out.2.2.2).mono ?_
    rintro e w7 ⟨rfl, hB7⟩
    rw [← HQ2.out]
    have HB7 : Hid (Below w.heap.size w w7) := stepB HA6.out.1 hB7
    have hqq2 : (q2 == q2) = true := by simp
    clear hB7 HA6 HQ2
    go_wp2
    go_ret
    exact ⟨rfl, HB7.out⟩
  all_goals
    clear h1 h2 h3
    go_enter Tryd.func4, Tryd.ntmps4
    go_wp2_with fail
    refine (awake_any w HR.out.2.2.2).mono ?_
    rintro e wa ⟨rfl, ba⟩
    have HB : Hid (Below w.heap.size w wa) := ba
    clear ba
    go_wp2
    go_ret
    exact ⟨rfl, HB.out⟩
end Go.Proofs.YtfiefohdceokdaaDoor
