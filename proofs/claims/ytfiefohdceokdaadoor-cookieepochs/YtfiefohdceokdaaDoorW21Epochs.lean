/- What the law CookieEpochs answers at every input: the walk. -/
import Derived.Test.YtfiefohdceokdaaDoorAw21
namespace Go.Proofs.YtfiefohdceokdaaDoor
open Go.ChangeShapes Go.WideShapes Go.ChangeAt Go.RowKit
set_option linter.unusedSimpArgs false
set_option linter.unusedVariables false

theorem ep_at {f p E : Nat} {q : Nat} (hq : q = if p = 0 then 1 else p) (h : f / q = E) : epN f p = E := by rw [epN_one, ← hq, h]

set_option maxRecDepth 100000 in
set_option maxHeartbeats 4000000 in
theorem epochs_one (n : Nat) (hn : n < 18446744073709551616) (w : World) (ht : Tabs w) :
    Calls Tryd.prog 6 #[.int .u64 (n : Int), .int .u64 0] w fun e w' => e = .returned (.bool true) ∧ Below w.heap.size w w' := by
  have HT : Hid (Tabs w) := ht
  have HN : Hid (n < 18446744073709551616) := hn
  have HE : Hid (epN n 0 = n) := rfl
  have ew : IntKind.u64.wrap (n : Int) = (n : Int) := by rw [IntKind.wrap_u64]; omega
  have eI : IntKind.u64.wrap ((n : Int) - (n : Int)) = 0 := by rw [IntKind.wrap_u64]; omega
  have d1 : decide ((n : Int) < (n : Int)) = false := decide_eq_false (by omega)
  have d1n : decide (n < n) = false := decide_eq_false (by omega)
  have hn0 : n = 0 ∨ 0 < n := by omega
  clear ht
  rcases hn0 with rfl | h1
  · go_enter Tryd.func6, Tryd.ntmps6
    go_wp2_with fail
    refine (awake_any w HT.out).mono ?_
    rintro e wa ⟨rfl, ba⟩
    have HB : Hid (Below w.heap.size w wa) := ba
    clear ba
    go_wp2_with fail
    refine (cepoch_at 0 0 _ _ rfl rfl (by decide) (by decide) _).mono ?_
    rintro e w1 ⟨rfl, rfl⟩
    rw [HE.out]
    go_wp2_with fail
    refine (cepoch_at 0 0 _ _ rfl rfl (by decide) (by decide) _).mono ?_
    rintro e w1 ⟨rfl, rfl⟩
    rw [HE.out]
    go_wp2
    go_ret
    exact ⟨rfl, HB.out⟩
  · obtain ⟨g, hg⟩ : ∃ g, g = n - 1 := ⟨_, rfl⟩
    have d3 : ((n : Int) == 0) = false := by rw [beq_eq_false_iff_ne]; omega
    have d4 : ¬ (n : Int) = 0 := by omega
    have d5 : ¬ n = 0 := by omega
    have e2 : IntKind.u64.wrap ((n : Int) - 1) = (g : Int) := by rw [IntKind.wrap_u64]; omega
    have HG : Hid (epN g 0 = g ∧ g < 18446744073709551616) := ⟨rfl, by omega⟩
    clear hg
    go_enter Tryd.func6, Tryd.ntmps6
    go_wp2_with fail
    refine (awake_any w HT.out).mono ?_
    rintro e wa ⟨rfl, ba⟩
    have HB : Hid (Below w.heap.size w wa) := ba
    clear ba
    go_wp2_with fail
    refine (cepoch_at n 0 _ _ rfl rfl HN.out (by decide) _).mono ?_
    rintro e w1 ⟨rfl, rfl⟩
    rw [HE.out]
    go_wp2_with fail
    refine (cepoch_at n 0 _ _ rfl rfl HN.out (by decide) _).mono ?_
    rintro e w1 ⟨rfl, rfl⟩
    rw [HE.out]
    go_wp2_with fail
    refine (cepoch_at g 0 _ _ rfl rfl HG.out.2 (by decide) _).mono ?_
    rintro e w1 ⟨rfl, rfl⟩
    rw [HG.out.1]
    go_wp2
    go_ret
    exact ⟨rfl, HB.out⟩

set_option maxRecDepth 100000 in
set_option maxHeartbeats 4000000 in
theorem epochs_more (n p : Nat) (hn : n < 18446744073709551616) (hp : p < 18446744073709551616) (hp0 : 0 < p) (w : World) (ht : Tabs w) :
    Calls Tryd.prog 6 #[.int .u64 (n : Int), .int .u64 (p : Int)] w fun e w' => e = .returned (.bool true) ∧ Below w.heap.size w w' := by
  have HT : Hid (Tabs w) := ht
  obtain ⟨f1, f2, f3, f4⟩ := ep_first n p hp0
  have hq : p = if p = 0 then 1 else p := by rw [if_neg (by omega)]
  obtain ⟨E, hE⟩ : ∃ E, E = n / p := ⟨_, rfl⟩
  rw [← hE] at f1 f2 f3 f4
  obtain ⟨f, hf⟩ : ∃ f, f = E * p := ⟨_, rfl⟩
  rw [← hf] at f1 f2 f3 f4
  have HN : Hid (epN n p = E) := ep_at hq hE.symm
  have HF : Hid (epN f p = E) := ep_at hq f3
  have hE64 : E ≤ n := by rw [hE]; exact Nat.div_le_self _ _
  have hf0 : f = 0 ∨ (0 < f ∧ 0 < E) := by
    rcases Nat.eq_zero_or_pos f with h | h
    · exact .inl h
    · exact .inr ⟨h, (Nat.eq_zero_or_pos E).elim (fun h1 => by rw [h1] at hf; omega) id⟩
  obtain ⟨d, hd⟩ : ∃ d : Nat, d = n - f := ⟨_, rfl⟩
  have e1 : IntKind.u64.wrap ((n : Int) - (f : Int)) = (d : Int) := by rw [IntKind.wrap_u64]; omega
  have em : IntKind.u64.wrap ((E : Int) * (p : Int)) = (f : Int) := (by rw [← Int.natCast_mul, ← hf, IntKind.wrap_u64]; omega : IntKind.u64.wrap ((E : Int) * (p : Int)) = (f : Int))
  have d1 : decide ((n : Int) < (f : Int)) = false := decide_eq_false (by omega)
  have d1n : decide (n < f) = false := decide_eq_false (by omega)
  have d2 : decide ((p : Int) ≤ (d : Int)) = false := decide_eq_false (by omega)
  have d2n : decide (p ≤ d) = false := decide_eq_false (by omega)
  have z1 : ((p : Int) == 0) = false := by rw [beq_eq_false_iff_ne]; omega
  have z2 : ¬ (p : Int) = 0 := by omega
  have HP : Hid (p < 18446744073709551616 ∧ n < 18446744073709551616 ∧ f < 18446744073709551616) := ⟨hp, hn, by omega⟩
  rcases hf0 with h0 | ⟨h1, h2⟩
  · have d3 : ((f : Int) == 0) = true := by rw [beq_iff_eq]; omega
    have d4 : (f : Int) = 0 := by omega
    clear f1 f2 f3 f4 hE hf hE64 hq ht hd hp hn h0
    go_enter Tryd.func6, Tryd.ntmps6
    clear d4
    go_wp2_with fail
    refine (awake_any w HT.out).mono ?_
    rintro e wa ⟨rfl, ba⟩
    have HB : Hid (Below w.heap.size w wa) := ba
    clear ba
    go_wp2_with fail
    refine (cepoch_at n p _ _ rfl rfl HP.out.2.1 HP.out.1 _).mono ?_
    rintro e w1 ⟨rfl, rfl⟩
    rw [HN.out]
    go_wp2_with fail
    refine (cepoch_at f p _ _ rfl rfl HP.out.2.2 HP.out.1 _).mono ?_
    rintro e w2 ⟨rfl, rfl⟩
    rw [HF.out]
    go_wp2
    go_ret
    exact ⟨rfl, HB.out⟩
  · obtain ⟨g, hg⟩ : ∃ g, g = f - 1 := ⟨_, rfl⟩
    obtain ⟨E1, hE1⟩ : ∃ E1, E1 = E - 1 := ⟨_, rfl⟩
    have d3 : ((f : Int) == 0) = false := by rw [beq_eq_false_iff_ne]; omega
    have d4 : ¬ (f : Int) = 0 := by omega
    have d5 : ¬ f = 0 := by omega
    have e2 : IntKind.u64.wrap ((f : Int) - 1) = (g : Int) := by rw [IntKind.wrap_u64]; omega
    have e3 : IntKind.u64.wrap ((E : Int) - 1) = (E1 : Int) := by rw [IntKind.wrap_u64]; omega
    have HG : Hid (epN g p = E1 ∧ g < 18446744073709551616) := ⟨ep_at hq (by rw [hg, hE1]; exact f4.elim (fun h => absurd h (by omega)) id), by omega⟩
    clear f1 f2 f3 f4 hE hf hE64 hq ht hd hp hn hg hE1 h1 h2
    go_enter Tryd.func6, Tryd.ntmps6
    go_wp2_with fail
    refine (awake_any w HT.out).mono ?_
    rintro e wa ⟨rfl, ba⟩
    have HB : Hid (Below w.heap.size w wa) := ba
    clear ba
    go_wp2_with fail
    refine (cepoch_at n p _ _ rfl rfl HP.out.2.1 HP.out.1 _).mono ?_
    rintro e w1 ⟨rfl, rfl⟩
    rw [HN.out]
    go_wp2_with fail
    refine (cepoch_at f p _ _ rfl rfl HP.out.2.2 HP.out.1 _).mono ?_
    rintro e w2 ⟨rfl, rfl⟩
    rw [HF.out]
    go_wp2_with fail
    refine (cepoch_at g p _ _ rfl rfl HG.out.2 HP.out.1 _).mono ?_
    rintro e w3 ⟨rfl, rfl⟩
    rw [HG.out.1]
    go_wp2
    go_ret
    exact ⟨rfl, HB.out⟩

theorem epochs_walk (n p : Nat) (hn : n < 18446744073709551616) (hp : p < 18446744073709551616) (w : World) (ht : Tabs w) :
    Calls Tryd.prog 6 #[.int .u64 (n : Int), .int .u64 (p : Int)] w fun e w' => e = .returned (.bool true) ∧ Below w.heap.size w w' := by
  rcases Nat.eq_zero_or_pos p with rfl | h
  · exact epochs_one n hn w ht
  · exact epochs_more n p hn hp h w ht
end Go.Proofs.YtfiefohdceokdaaDoor
