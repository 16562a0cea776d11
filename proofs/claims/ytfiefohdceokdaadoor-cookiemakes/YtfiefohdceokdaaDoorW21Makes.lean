/- What the law CookieMakes answers at every input: the walk. -/
import Derived.Test.YtfiefohdceokdaaDoorAw21
import Derived.Test.YtfiefohdceokdaaDoorRef21
namespace Go.Proofs.YtfiefohdceokdaaDoor
open Go.ChangeShapes Go.WideShapes Go.ChangeAt Go.RowKit
set_option linter.unusedSimpArgs false
set_option linter.unusedVariables false

set_option maxRecDepth 100000 in
set_option maxHeartbeats 4000000 in
theorem makes_walk (vs vg : Value) (s src sg : List UInt8) (now p : Nat) (h2 : now < 18446744073709551616) (h3 : p < 18446744073709551616) (hm : src.length ≤ maxLen) (w : World) (hr : Rd w vs s) (hg : Rd w vg sg) (ht : Tabs w) :
    Calls Tryd.prog 3 #[vs, .int .u64 (now : Int), .int .u64 (p : Int), .string ⟨src.toArray⟩, vg] w fun e w' => e = .returned (.bool true) ∧ Below w.heap.size w w' := by
  have hsz : (⟨src.toArray⟩ : ByteArray).size = src.length := by simp [ByteArray.size]
  obtain ⟨sa, cs, rfl, -, hms, -⟩ := id hr
  obtain ⟨ag, cg, rfl, -, hmg, -⟩ := id hg
  unfold maxLen at hm hms hmg
  have HR : Hid (Rd w _ s ∧ Rd w _ sg ∧ Tabs w) := ⟨hr, hg, ht⟩
  clear hr hg ht
  have hway : (300 < s.length) ∨ (s.length ≤ 300 ∧ 300 < src.length) ∨ (s.length ≤ 300 ∧ src.length ≤ 300 ∧ 2000 < sg.length) ∨ (s.length ≤ 300 ∧ src.length ≤ 300 ∧ sg.length ≤ 2000) := by omega
  rcases hway with a1 | ⟨a1, a2⟩ | ⟨a1, a2, a3⟩ | ⟨a1, a2, a3⟩
  case' inl =>
    have d1 : decide ((300 : Int) < (s.length : Int)) = true := decide_eq_true (by omega)
  case' inr.inl =>
    have d1 : decide ((300 : Int) < (s.length : Int)) = false := decide_eq_false (by omega)
    have d2 : decide ((300 : Int) < (src.length : Int)) = true := decide_eq_true (by omega)
  case' inr.inr.inl =>
    have d1 : decide ((300 : Int) < (s.length : Int)) = false := decide_eq_false (by omega)
    have d2 : decide ((300 : Int) < (src.length : Int)) = false := decide_eq_false (by omega)
    have d3 : decide ((2000 : Int) < (sg.length : Int)) = true := decide_eq_true (by omega)
  rotate_left 3
  · have d1 : decide ((300 : Int) < (s.length : Int)) = false := decide_eq_false (by omega)
    have d2 : decide ((300 : Int) < (src.length : Int)) = false := decide_eq_false (by omega)
    have d3 : decide ((2000 : Int) < (sg.length : Int)) = false := decide_eq_false (by omega)
    have HL : Hid (s.length ≤ 100000 ∧ src.length ≤ 100000 ∧ sg.length ≤ 100000) := ⟨by omega, by omega, by omega⟩
    have HN : Hid (now < 18446744073709551616 ∧ p < 18446744073709551616) := ⟨h2, h3⟩
    have HE : Hid (epN now p < 18446744073709551616) := (by have := epN_le now p; omega : epN now p < 18446744073709551616)
    obtain ⟨F, hF⟩ : ∃ F, F = epN now p := ⟨_, rfl⟩
    rw [← hF] at HE
    have HF : Hid (F = epN now p) := hF
    have hl2 : (ckL s F src).length = 16 := ckL_length ..
    obtain ⟨C, hC⟩ : ∃ C, C = ckL s F src := ⟨_, rfl⟩
    rw [← hC] at hl2
    have HC : Hid (C = ckL s F src ∧ C.length = 16 ∧ C.length ≤ 100000) := ⟨hC, hl2, by omega⟩
    clear a1 a2 a3 h2 h3 hF hl2 hC
    go_enter Tryd.func3, Tryd.ntmps3
    go_wp2_with fail
    refine (awake_any w HR.out.2.2).mono ?_
    rintro e wa ⟨rfl, ba⟩
    have HA : Hid (Below w.heap.size w wa ∧ Rd wa _ s ∧ Rd wa _ sg ∧ Tabs wa) := ⟨ba, HR.out.1.kept ba, HR.out.2.1.kept ba, HR.out.2.2.kept ba⟩
    clear ba HR
    go_wp2_with fail
    refine (cepoch_any now p HN.out.1 HN.out.2 _).mono ?_
    rintro e w1 ⟨rfl, rfl⟩
    rw [← HF.out]
    go_wp2_with fail
    refine (cmake_any _ s src F HL.out.2.1 _ HA.out.2.1 HA.out.2.2.2).mono ?_
    rintro e w2 ⟨v2, rfl, hR2, hB2⟩
    rw [← HC.out.1] at hR2
    obtain ⟨a2, c2, rfl, -⟩ := id hR2
    have HA2 : Hid (Below w.heap.size w w2) := stepB HA.out.1 hB2
    have HX : Hid (Rd w2 _ s ∧ Rd w2 _ sg ∧ Tabs w2 ∧ Rd w2 _ C) := ⟨HA.out.2.1.kept hB2, HA.out.2.2.1.kept hB2, HA.out.2.2.2.kept hB2, hR2⟩
    clear hR2 hB2 HA
    go_wp2_with fail
    refine wpG_begin (by kernel_rfl) ?_
    refine gU_ 0 rfl ⟨_, by intro W hW; go_simp <;> with_reducible rfl, ?_⟩
    try simp only [Act.put, pA_, pB_, pC_]
    refine gU_ 1 rfl ⟨_, by intro W hW; go_simp <;> with_reducible rfl, ?_⟩
    try simp only [Act.put, pA_, pB_, pC_]
    refine gU_ 2 rfl ⟨_, by intro W hW; go_simp <;> with_reducible rfl, ?_⟩
    try simp only [Act.put, pA_, pB_, pC_]
    refine gD_ 3 fun K hK => ?_
    go_simp
    refine (epoch21_any now p HN.out.1 HN.out.2 _).mono ?_
    rintro r w3 ⟨rfl, rfl⟩
    rw [← HF.out]
    refine hK.out _ _ (Below.refl _ _) ?_
    clear hK K
    try simp only [Act.put, pA_, pB_, pC_]
    refine gU_ 4 rfl ⟨_, by intro W hW; go_simp <;> with_reducible rfl, ?_⟩
    try simp only [Act.put, pA_, pB_, pC_]
    refine gU_ 5 rfl ⟨_, by intro W hW; go_simp <;> with_reducible rfl, ?_⟩
    try simp only [Act.put, pA_, pB_, pC_]
    refine gU_ 6 rfl ⟨_, by intro W hW; go_simp <;> with_reducible rfl, ?_⟩
    try simp only [Act.put, pA_, pB_, pC_]
    refine gU_ 7 rfl ⟨_, by intro W hW; have hcv := conv21 (HX.out.2.2.2.drew.kept hW); go_simp <;> with_reducible rfl, ?_⟩
    try simp only [Act.put, pA_, pB_, pC_]
    refine gU_ 8 rfl ⟨_, by intro W hW; go_simp <;> with_reducible rfl, ?_⟩
    try simp only [Act.put, pA_, pB_, pC_]
    refine gU_ 9 rfl ⟨_, by intro W hW; go_simp <;> with_reducible rfl, ?_⟩
    try simp only [Act.put, pA_, pB_, pC_]
    refine gU_ 10 rfl ⟨_, by intro W hW; go_simp <;> with_reducible rfl, ?_⟩
    try simp only [Act.put, pA_, pB_, pC_]
    refine gD_ 11 fun K hK => ?_
    go_simp
    refine (make21_any _ s src F HE.out HL.out.1 HL.out.2.1 _ (HX.out.1.drew)).mono ?_
    rintro r w4 ⟨v4, rfl, hR4, hB4⟩
    rw [← HC.out.1] at hR4
    refine hK.out _ _ hB4 ?_
    clear hK K
    have hx4 := HX.out.2.2.2.drew.kept hB4
    have hg4 := HX.out.2.1.drew.kept hB4
    have ht4 := (HX.out.2.2.1.kept (Below.refl _ _).drew).kept hB4
    try simp only [Act.put, pA_, pB_, pC_]
    refine gU_ 12 rfl ⟨_, by intro W hW; have hcv := conv21 (hR4.kept hW); go_simp <;> with_reducible rfl, ?_⟩
    try simp only [Act.put, pA_, pB_, pC_]
    refine gU_ 13 rfl ⟨_, by intro W hW; go_simp <;> with_reducible rfl, ?_⟩
    try simp only [Act.put, pA_, pB_, pC_]
    refine gU_ 14 rfl ⟨_, by intro W hW; go_simp <;> with_reducible rfl, ?_⟩
    try simp only [Act.put, pA_, pB_, pC_]
    refine gU_ 15 rfl ⟨_, by intro W hW; go_simp <;> with_reducible rfl, ?_⟩
    try simp only [Act.put, pA_, pB_, pC_]
    refine gU_ 16 rfl ⟨_, by intro W hW; go_simp <;> with_reducible rfl, ?_⟩
    try simp only [Act.put, pA_, pB_, pC_]
    refine gU_ 17 rfl ⟨_, by intro W hW; go_simp <;> with_reducible rfl, ?_⟩
    try simp only [Act.put, pA_, pB_, pC_]
    refine gU_ 20 rfl ⟨_, by intro W hW; go_simp <;> with_reducible rfl, ?_⟩
    try simp only [Act.put, pA_, pB_, pC_]
    refine gU_ 21 rfl ⟨_, by intro W hW; go_simp <;> with_reducible rfl, ?_⟩
    try simp only [Act.put, pA_, pB_, pC_]
    refine gD_ 18 fun K hK => ?_
    go_simp
    refine (csign_any _ _ C sg HL.out.2.2 _ hx4 hg4 ht4).mono ?_
    rintro r w5 ⟨v5, rfl, hR5, hB5⟩
    refine hK.out _ _ hB5 ?_
    clear hK K
    have hx5 := hx4.kept hB5
    have hg5 := hg4.kept hB5
    have ht5 := ht4.kept hB5
    try simp only [Act.put, pA_, pB_, pC_]
    refine gU_ 19 rfl ⟨_, by intro W hW; have hcv := conv21 (hR5.kept hW); go_simp <;> with_reducible rfl, ?_⟩
    try simp only [Act.put, pA_, pB_, pC_]
    refine gD_ 22 fun K hK => ?_
    go_simp
    refine (sign21_any _ _ C sg HC.out.2.2 HL.out.2.2 _ hx5 hg5).mono ?_
    rintro r w6 ⟨v6, rfl, hR6, hB6⟩
    refine hK.out _ _ hB6 ?_
    clear hK K
    have hx6 := hx5.kept hB6
    have hg6 := hg5.kept hB6
    have ht6 := ht5.kept hB6
    try simp only [Act.put, pA_, pB_, pC_]
    refine gU_ 23 rfl ⟨_, by intro W hW; have hcv := conv21 (hR6.kept hW); go_simp <;> with_reducible rfl, ?_⟩
    try simp only [Act.put, pA_, pB_, pC_]
    refine gU_ 24 rfl ⟨_, by intro W hW; go_simp <;> with_reducible rfl, ?_⟩
    try simp only [Act.put, pA_, pB_, pC_]
    refine gU_ 25 rfl ⟨_, by intro W hW; go_simp <;> with_reducible rfl, ?_⟩
    try simp only [Act.put, pA_, pB_, pC_]
    refine gU_ 26 rfl ⟨_, by intro W hW; go_simp <;> with_reducible rfl, ?_⟩
    try simp only [Act.put, pA_, pB_, pC_]
    refine gU_ 27 rfl ⟨_, by intro W hW; go_simp <;> with_reducible rfl, ?_⟩
    try simp only [Act.put, pA_, pB_, pC_]
    refine gU_ 28 rfl ⟨_, by intro W hW; go_simp <;> with_reducible rfl, ?_⟩
    try simp only [Act.put, pA_, pB_, pC_]
    refine gU_ 31 rfl ⟨_, by intro W hW; go_simp <;> with_reducible rfl, ?_⟩
    try simp only [Act.put, pA_, pB_, pC_]
    refine gU_ 32 rfl ⟨_, by intro W hW; go_simp <;> with_reducible rfl, ?_⟩
    try simp only [Act.put, pA_, pB_, pC_]
    refine gD_ 29 fun K hK => ?_
    go_simp
    refine (csign_any _ _ sg C HC.out.2.2 _ hg6 hx6 ht6).mono ?_
    rintro r w7 ⟨v7, rfl, hR7, hB7⟩
    refine hK.out _ _ hB7 ?_
    clear hK K
    have hx7 := hx6.kept hB7
    have hg7 := hg6.kept hB7
    try simp only [Act.put, pA_, pB_, pC_]
    refine gU_ 30 rfl ⟨_, by intro W hW; have hcv := conv21 (hR7.kept hW); go_simp <;> with_reducible rfl, ?_⟩
    try simp only [Act.put, pA_, pB_, pC_]
    refine gD_ 33 fun K hK => ?_
    go_simp
    refine (sign21_any _ _ sg C HL.out.2.2 HC.out.2.2 _ hg7 hx7).mono ?_
    rintro r w8 ⟨v8, rfl, hR8, hB8⟩
    refine hK.out _ _ hB8 ?_
    clear hK K
    try simp only [Act.put, pA_, pB_, pC_]
    refine gU_ 34 rfl ⟨_, by intro W hW; have hcv := conv21 (hR8.kept hW); go_simp <;> with_reducible rfl, ?_⟩
    try simp only [Act.put, pA_, pB_, pC_]
    refine gU_ 35 rfl ⟨_, by intro W hW; go_simp <;> with_reducible rfl, ?_⟩
    try simp only [Act.put, pA_, pB_, pC_]
    refine gU_ 36 rfl ⟨_, by intro W hW; go_simp <;> with_reducible rfl, ?_⟩
    try simp only [Act.put, pA_, pB_, pC_]
    refine gU_ 37 rfl ⟨_, by intro W hW; go_simp <;> with_reducible rfl, ?_⟩
    try simp only [Act.put, pA_, pB_, pC_]
    refine wpG_done (by kernel_rfl) ?_
    have HB8 : Hid (Below w.heap.size w w8) := stepB HA2.out.drew (stepB hB4 (stepB hB5 (stepB hB6 (stepB hB7 hB8))))
    go_wp2
    go_ret
    exact ⟨rfl, HB8.out⟩
  all_goals
    clear h2 h3
    go_enter Tryd.func3, Tryd.ntmps3
    go_wp2_with fail
    refine (awake_any w HR.out.2.2).mono ?_
    rintro e wa ⟨rfl, ba⟩
    have HB : Hid (Below w.heap.size w wa) := ba
    clear ba
    go_wp2
    go_ret
    exact ⟨rfl, HB.out⟩
end Go.Proofs.YtfiefohdceokdaaDoor
