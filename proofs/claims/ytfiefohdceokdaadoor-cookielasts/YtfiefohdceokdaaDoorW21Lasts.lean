/- What the law CookieLasts answers at every input: the walk. -/
import Derived.Test.YtfiefohdceokdaaDoorAw21
namespace Go.Proofs.YtfiefohdceokdaaDoor
open Go.ChangeShapes Go.WideShapes Go.ChangeAt Go.RowKit
set_option linter.unusedSimpArgs false
set_option linter.unusedVariables false

theorem and48c (x : Nat) (hx : x < 18446744073709551616) : bits .and .u64 (x : Int) 281474976710655 = ((x % 281474976710656 : Nat) : Int) := by
  have := u64_and_nat x 281474976710655 hx (by decide)
  rw [show (281474976710655 : Int) = ((281474976710655 : Nat) : Int) from rfl, this, show (281474976710655 : Nat) = 2 ^ 48 - 1 from rfl, Nat.and_two_pow_sub_one_eq_mod]
theorem and16c (x : Nat) (hx : x < 18446744073709551616) : bits .and .u64 (x : Int) 65535 = ((x % 65536 : Nat) : Int) := by
  have := u64_and_nat x 65535 hx (by decide)
  rw [show (65535 : Int) = ((65535 : Nat) : Int) from rfl, this, show (65535 : Nat) = 2 ^ 16 - 1 from rfl, Nat.and_two_pow_sub_one_eq_mod]

set_option maxRecDepth 100000 in
set_option maxHeartbeats 4000000 in
theorem lasts_walk (vs vg : Value) (s src sg : List UInt8) (now period later : Nat) (h1 : now < 18446744073709551616) (h2 : period < 18446744073709551616) (h3 : later < 18446744073709551616) (hm : src.length ≤ maxLen) (w : World) (hr : Rd w vs s) (hg : Rd w vg sg) (ht : Tabs w) :
    Calls Tryd.prog 5 #[vs, .int .u64 (now : Int), .int .u64 (period : Int), .int .u64 (later : Int), .string ⟨src.toArray⟩, vg] w fun e w' => e = .returned (.bool true) ∧ Below w.heap.size w w' := by
  have hsz : (⟨src.toArray⟩ : ByteArray).size = src.length := by simp [ByteArray.size]
  obtain ⟨sa, cs, rfl, -, hms, -⟩ := id hr
  obtain ⟨ag, cg, rfl, -, hmg, -⟩ := id hg
  unfold maxLen at hm hms hmg
  have HR : Hid (Rd w _ s ∧ Rd w _ sg ∧ Tabs w) := ⟨hr, hg, ht⟩
  clear hr hg ht
  have hway : (300 < s.length) ∨ (s.length ≤ 300 ∧ 300 < src.length) ∨ (s.length ≤ 300 ∧ src.length ≤ 300 ∧ 2000 < sg.length) ∨ (s.length ≤ 300 ∧ src.length ≤ 300 ∧ sg.length ≤ 2000) := by omega
  rcases hway with a1 | ⟨a1, a2⟩ | ⟨a1, a2, a3⟩ | ⟨a1, a2, a3⟩
  case' inl =>
    have d1 : decide ((300 : Int) < (s.length : Int)) = true := decide_eq_true (by omega)
  case' inr.inl =>
    have d1 : decide ((300 : Int) < (s.length : Int)) = false := decide_eq_false (by omega)
    have d2 : decide ((300 : Int) < (src.length : Int)) = true := decide_eq_true (by omega)
  case' inr.inr.inl =>
    have d1 : decide ((300 : Int) < (s.length : Int)) = false := decide_eq_false (by omega)
    have d2 : decide ((300 : Int) < (src.length : Int)) = false := decide_eq_false (by omega)
    have d3 : decide ((2000 : Int) < (sg.length : Int)) = true := decide_eq_true (by omega)
  rotate_left 3
  · have d1 : decide ((300 : Int) < (s.length : Int)) = false := decide_eq_false (by omega)
    have d2 : decide ((300 : Int) < (src.length : Int)) = false := decide_eq_false (by omega)
    have d3 : decide ((2000 : Int) < (sg.length : Int)) = false := decide_eq_false (by omega)
    have HL : Hid (s.length ≤ 300 ∧ src.length ≤ 300 ∧ sg.length ≤ 2000) := ⟨a1, a2, a3⟩
    have e1 := and48c now h1
    have e2 := and16c period h2
    obtain ⟨t, htt⟩ : ∃ t, t = now % 281474976710656 := ⟨_, rfl⟩
    obtain ⟨q0, hq0⟩ : ∃ q, q = period % 65536 := ⟨_, rfl⟩
    rw [← htt] at e1
    rw [← hq0] at e2
    obtain ⟨p, hp⟩ : ∃ p, p = q0 + 1 := ⟨_, rfl⟩
    have e3 : IntKind.u64.wrap ((q0 : Int) + 1) = (p : Int) := by rw [IntKind.wrap_u64]; omega
    have hp0 : 0 < p := by omega
    have hp16 : p ≤ 65536 := by omega
    have ht48 : t < 281474976710656 := by omega
    obtain ⟨E, hE⟩ : ∃ E, E = t / p := ⟨_, rfl⟩
    have hEt : E ≤ t := by rw [hE]; exact Nat.div_le_self _ _
    have hlow : E * p ≤ t := by rw [hE]; exact Nat.div_mul_le_self _ _
    have hup : t < E * p + p := by rw [hE]; exact Nat.lt_div_mul_add hp0
    obtain ⟨en, hen⟩ : ∃ en, en = (E + 2) * p := ⟨_, rfl⟩
    have hen2 : en = E * p + 2 * p := by rw [hen, Nat.add_mul]
    obtain ⟨D, hD⟩ : ∃ D, D = en - t := ⟨_, rfl⟩
    have hD0 : 0 < D := by omega
    obtain ⟨r, hrr⟩ : ∃ r, r = later % D := ⟨_, rfl⟩
    have hrD : r < D := by rw [hrr]; exact Nat.mod_lt _ hD0
    obtain ⟨T, hT⟩ : ∃ T, T = t + r := ⟨_, rfl⟩
    obtain ⟨E2, hE2⟩ : ∃ E2, E2 = E + 2 := ⟨_, rfl⟩
    have z1 : ((p : Int) == 0) = false := by rw [beq_eq_false_iff_ne]; omega
    have z2 : ¬ (p : Int) = 0 := by omega
    have z3 : ((D : Int) == 0) = false := by rw [beq_eq_false_iff_ne]; omega
    have z4 : ¬ (D : Int) = 0 := by omega
    have z5 : ¬ p = 0 := by omega
    have z6 : ¬ D = 0 := by omega
    have e4 : Int.tdiv (t : Int) (p : Int) = (E : Int) := by rw [Int.tdiv_eq_ediv_of_nonneg (by omega), hE]; exact (Int.natCast_ediv t p).symm
    have e5 : IntKind.u64.wrap (E : Int) = (E : Int) := by rw [IntKind.wrap_u64]; omega
    have e6 : IntKind.u64.wrap ((E : Int) + 2) = (E2 : Int) := by rw [IntKind.wrap_u64]; omega
    have e7 : IntKind.u64.wrap ((E2 : Int) * (p : Int)) = (en : Int) := by rw [← Int.natCast_mul, hE2, ← hen, IntKind.wrap_u64]; omega
    have e8 : IntKind.u64.wrap ((en : Int) - (t : Int)) = (D : Int) := by rw [IntKind.wrap_u64]; omega
    have e9 : Int.tmod (later : Int) (D : Int) = (r : Int) := by rw [Int.tmod_eq_emod_of_nonneg (by omega), hrr]; exact (Int.natCast_emod later D).symm
    have e10 : IntKind.u64.wrap (r : Int) = (r : Int) := by rw [IntKind.wrap_u64]; omega
    have e11 : IntKind.u64.wrap ((t : Int) + (r : Int)) = (T : Int) := by rw [IntKind.wrap_u64]; omega
    have HN : Hid (t < 18446744073709551616 ∧ p < 18446744073709551616 ∧ T < 18446744073709551616) := ⟨by omega, by omega, by omega⟩
    have HV : Hid (vaB s T p src sg (sgC (ckL s (epN t p) src) sg) = true) := (va_lasts s t p T hp0 src sg (by omega) (by rw [← hE, ← hen]; omega) : vaB s T p src sg (sgC (ckL s (epN t p) src) sg) = true)
    clear a1 a2 a3 h1 h2 h3 htt hq0 hp hp16 ht48 hE hEt hlow hup hen hen2 hD hD0 hrr hrD hT hE2 hp0
    go_enter Tryd.func5, Tryd.ntmps5
    go_wp2_with fail
    refine (awake_any w HR.out.2.2).mono ?_
    rintro e wa ⟨rfl, ba⟩
    have HA : Hid (Below w.heap.size w wa ∧ Rd wa _ s ∧ Rd wa _ sg ∧ Tabs wa) := ⟨ba, HR.out.1.kept ba, HR.out.2.1.kept ba, HR.out.2.2.kept ba⟩
    clear ba HR
    go_wp2_with fail
    refine (cepoch_any t p HN.out.1 HN.out.2.1 _).mono ?_
    rintro e w1 ⟨rfl, rfl⟩
    generalize epN t p = F at HV ⊢
    go_wp2_with fail
    refine (cmake_any _ s src F (by have := HL.out; omega) _ HA.out.2.1 HA.out.2.2.2).mono ?_
    rintro e w2 ⟨v2, rfl, hR2, hB2⟩
    obtain ⟨a2, c2, rfl, -⟩ := id hR2
    have HA2 : Hid (Below w.heap.size w w2 ∧ Rd w2 _ s ∧ Rd w2 _ sg ∧ Tabs w2 ∧ Rd w2 _ (ckL s F src)) := ⟨stepB HA.out.1 hB2, HA.out.2.1.kept hB2, HA.out.2.2.1.kept hB2, HA.out.2.2.2.kept hB2, hR2⟩
    clear hR2 hB2 HA
    go_wp2_with fail
    refine (csign_any _ _ _ sg (by have := HL.out; omega) _ HA2.out.2.2.2.2 HA2.out.2.2.1 HA2.out.2.2.2.1).mono ?_
    rintro e w3 ⟨v3, rfl, hR3, hB3⟩
    obtain ⟨a3, c3, rfl, -⟩ := id hR3
    have HA3 : Hid (Below w.heap.size w w3 ∧ Rd w3 _ s ∧ Rd w3 _ sg ∧ Tabs w3 ∧ Rd w3 _ (sgC (ckL s F src) sg)) := ⟨stepB HA2.out.1 hB3, HA2.out.2.1.kept hB3, HA2.out.2.2.1.kept hB3, HA2.out.2.2.2.1.kept hB3, hR3⟩
    clear hR3 hB3 HA2
    go_wp2_with fail
    refine (cvalid_any _ _ _ s src sg _ T p HN.out.2.2 HN.out.2.1 (by have := HL.out; omega) (by have := HL.out; omega) _ HA3.out.2.1 HA3.out.2.2.1 HA3.out.2.2.2.2 HA3.out.2.2.2.1).mono ?_
    rintro e w4 ⟨rfl, hB4⟩
    rw [HV.out]
    have HB4 : Hid (Below w.heap.size w w4) := stepB HA3.out.1 hB4
    clear hB4 HA3
    go_wp2
    go_ret
    exact ⟨rfl, HB4.out⟩
  all_goals
    clear h1 h2 h3
    go_enter Tryd.func5, Tryd.ntmps5
    go_wp2_with fail
    refine (awake_any w HR.out.2.2).mono ?_
    rintro e wa ⟨rfl, ba⟩
    have HB : Hid (Below w.heap.size w wa) := ba
    clear ba
    go_wp2
    go_ret
    exact ⟨rfl, HB.out⟩
end Go.Proofs.YtfiefohdceokdaaDoor
