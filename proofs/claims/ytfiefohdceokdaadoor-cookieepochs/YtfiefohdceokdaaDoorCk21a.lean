/- Periods, what a source must show, codes, and which are valid: contracts of package cookie. -/
import Derived.Test.YtfiefohdceokdaaDoorCkMath
import Derived.Test.YtfiefohdceokdaaDoorH04b
import Derived.Test.YtfiefohdceokdaaDoorSyStr
import Derived.Test.YtfiefohdceokdaaDoorWords
import Derived.OwnWalk
import Derived.Lib.MinMax
namespace Go.Proofs.YtfiefohdceokdaaDoor
open Go.ChangeShapes Go.WideShapes Go.ChangeAt Go.RowKit
set_option linter.unusedSimpArgs false
set_option linter.unusedVariables false

theorem cepoch_any (now p : Nat) (h1 : now < 18446744073709551616) (h2 : p < 18446744073709551616) (w : World) :
    Calls Tryd.prog 8 #[.int .u64 (now : Int), .int .u64 (p : Int)] w fun e w' => e = .returned (.int .u64 ((epN now p : Nat) : Int)) ∧ w' = w := by
  obtain ⟨q, hq⟩ : ∃ q : Nat, q = if p = 0 then 1 else p := ⟨_, rfl⟩
  have HE : Hid (epN now p = now / q) := (by rw [hq]; exact epN_one now p : epN now p = now / q)
  have hq0 : 0 < q := by rw [hq]; split <;> omega
  have hmax : max (p : Int) 1 = (q : Int) := by rw [hq]; split <;> omega
  have hmax2 : max 1 (p : Int) = (q : Int) := by omega
  have hq64 : q < 18446744073709551616 := by rw [hq]; split <;> omega
  have hqz : ¬ (q : Int) = 0 := by omega
  have hqzN : ¬ q = 0 := by omega
  have hqd : ((q : Int) == 0) = false := by rw [beq_eq_false_iff_ne]; omega
  have hd : Int.tdiv (now : Int) (q : Int) = ((now / q : Nat) : Int) := by rw [Int.tdiv_eq_ediv_of_nonneg (by omega)]; exact (Int.natCast_ediv now q).symm
  have hle := Nat.div_le_self now q
  have hw : IntKind.u64.wrap ((now / q : Nat) : Int) = ((now / q : Nat) : Int) := by rw [IntKind.wrap_u64]; generalize now / q = q at hle ⊢; omega
  generalize now / q = z at HE hd hle hw
  clear hq h1 h2 hle
  go_enter Tryd.func8, Tryd.ntmps8
  go_wp2
  go_ret
  exact ⟨retI (by rw [HE.out]), rfl⟩

set_option maxRecDepth 100000 in
set_option maxHeartbeats 2000000 in
theorem csign_any (vc vs : Value) (c s : List UInt8) (hs : s.length ≤ 100000) (w : World) (h1 : Rd w vc c) (h2 : Rd w vs s) (ht : Tabs w) :
    Calls Tryd.prog 12 #[vc, vs] w fun r w' => ∃ v, r = .returned v ∧ Rd w' v (sgC c s) ∧ Below w.heap.size w w' := by
  have HV : Hid (sgC c s = (mcF c s).take 16) := rfl
  have HS : Hid (s.length ≤ 100000) := hs
  obtain ⟨G, hG⟩ : ∃ G, G = sgC c s := ⟨_, rfl⟩
  rw [← hG] at HV ⊢
  obtain ⟨sa, cs, rfl, -⟩ := id h2
  obtain ⟨ac, cc, rfl, -⟩ := id h1
  clear hG hs
  go_enter Tryd.func12, Tryd.ntmps12
  go_wp2_with fail
  refine (mac_any _ _ c s HS.out _ h1 h2 ht).mono ?_
  rintro r w4 ⟨v4, rfl, hN4⟩
  have hL4 : (mcF c s).length = 32 := mcF_length _ _
  have hR4 : Rd w4 v4 (mcF c s) := hN4.rd
  have HB4 : Hid (Below w.heap.size w w4) := hN4.2
  generalize mcF c s = M at hR4 HV hL4
  obtain ⟨a4, c4, rfl, hc4, hm4, -, hx⟩ := id hR4
  rw [hL4] at hR4 hc4 ⊢
  rcases hx with rfl | ⟨b, o, rfl, -⟩
  · cases hL4
  have hcI : (16 : Int) ≤ (c4 : Int) := by omega
  have hmI : c4 ≤ 9223372036854775807 := by unfold maxLen at hm4; omega
  have HR4 : Hid (Rd w4 (.slice (some ⟨b, o, none⟩) 16 16) (M.take 16)) := (by
    obtain ⟨a', cap', e, h2, h3, h4, h5⟩ := hR4.sub 0 16 (by decide) (by decide)
    simp only [Value.slice.injEq] at e
    obtain ⟨rfl, e2, rfl⟩ := e
    rw [List.drop_zero] at h5 e2 h2
    exact ⟨_, _, (by simp only [Nat.add_zero, Nat.sub_zero] at e2 ⊢; rw [← e2]), (by first | omega | exact List.length_take_le ..), (by unfold maxLen; omega), (fun h => by cases h), h5⟩ : Rd w4 (.slice (some ⟨b, o, none⟩) 16 16) (M.take 16))
  clear hN4 hR4 hc4 hm4 hL4 h1 h2 ht
  go_wp2
  go_ret
  exact ⟨_, rfl, by rw [HV.out]; exact HR4.out, HB4.out⟩

set_option maxRecDepth 100000 in
set_option maxHeartbeats 2000000 in
theorem cmake_any (vs : Value) (s src : List UInt8) (e : Nat) (hc : src.length ≤ 100000) (w : World) (hr : Rd w vs s) (ht : Tabs w) :
    Calls Tryd.prog 9 #[vs, .int .u64 (e : Int), .string ⟨src.toArray⟩] w fun r w' => ∃ v, r = .returned v ∧ Rd w' v (ckL s e src) ∧ Below w.heap.size w w' := by
  have HC : Hid (src.length ≤ 100000) := hc
  have HR : Hid (Rd w vs s) := hr
  have HT : Hid (Tabs w) := ht
  have HV : Hid (ckL s e src = sgC (mcF s ((List.range 8).map (stB e))) src) := rfl
  obtain ⟨G, hG⟩ : ∃ G, G = ckL s e src := ⟨_, rfl⟩
  rw [← hG] at HV ⊢
  obtain ⟨sa, cs, rfl, -⟩ := id hr
  clear hc hr hG ht
  go_enter Tryd.func9, Tryd.ntmps9
  go_wp2_with fail
  refine (store_k e 8 8 (by decide) (by omega) _).mono ?_
  rintro r w1 ⟨v1, rfl, hN1⟩
  have HL1 : Hid (((List.range 8).map (stB e)).length ≤ 100000) := by show _ ≤ _; simp
  generalize (List.range 8).map (stB e) = E at hN1 HV HL1
  have HR1 : Hid (Rd w1 (.slice sa s.length cs) s) := HR.out.kept hN1.2
  have HE1 : Hid (Rd w1 v1 E) := hN1.rd
  have HB1 : Hid (Below w.heap.size w w1) := hN1.2
  have HT1 : Hid (Tabs w1) := HT.out.kept hN1.2
  obtain ⟨a1, c1, rfl, -⟩ := id hN1.rd
  clear hN1
  go_wp2_with fail
  refine (mac_any _ _ s E HL1.out _ HR1.out HE1.out HT1.out).mono ?_
  rintro r w2 ⟨v2, rfl, hN2⟩
  have hB2 := hN2.2
  have hR2 : Rd w2 v2 (mcF s E) := hN2.rd
  have HT2 : Hid (Tabs w2) := HT1.out.kept hB2
  generalize mcF s E = K at hR2 HV
  obtain ⟨a2, c2, rfl, -⟩ := id hR2
  have HR2 : Hid (Rd w2 (.slice a2 K.length c2) K) := hR2
  have HB2 : Hid (Below w.heap.size w w2) := stepB HB1.out hB2
  clear hR2 hB2 HB1 HR1 HE1 hN2
  go_wp2_with (refine wpList_conv_text rfl _ 9 22 5 rfl Tryd.underlying9 Tryd.underlying22 Tryd.underlying5 src rfl (by have := HC.out; unfold maxLen; omega) ?_)
  intro v3 w3 hR3 hB3
  obtain ⟨a3, c3, rfl, -⟩ := id hR3
  have HR3 : Hid (Rd w3 (.slice a3 src.length c3) src) := hR3
  have HK3 : Hid (Rd w3 (.slice a2 K.length c2) K) := HR2.out.kept hB3
  have HB3 : Hid (Below w.heap.size w w3) := stepB HB2.out hB3
  have HT3 : Hid (Tabs w3) := HT2.out.kept hB3
  clear hR3 hB3 HR2 HB2
  go_wp2_with fail
  refine (csign_any _ _ K src HC.out _ HK3.out HR3.out HT3.out).mono ?_
  rintro r w4 ⟨v4, rfl, hR4, hB4⟩
  have HR4 : Hid (Rd w4 v4 (sgC K src)) := hR4
  have HB4 : Hid (Below w.heap.size w w4) := stepB HB3.out hB4
  clear hR4 hB4 HR3 HK3 HB3
  go_wp2
  go_ret
  exact ⟨_, rfl, by rw [HV.out]; exact HR4.out, HB4.out⟩

/-- None of the first so many periods has this code. -/
def NoC (s : List UInt8) (E : Nat) (src sg mac : List UInt8) (j : Nat) : Prop := ∀ k, k < j → k ≤ E → ¬ mac = sgC (ckL s (E - k) src) sg
theorem NoC.zero (s : List UInt8) (E : Nat) (src sg mac : List UInt8) : NoC s E src sg mac 0 := fun k hk => absurd hk (Nat.not_lt_zero _)
theorem NoC.next {s : List UInt8} {E : Nat} {src sg mac : List UInt8} {j : Nat} (h : NoC s E src sg mac j) (h1 : ¬ mac = sgC (ckL s (E - j) src) sg) : NoC s E src sg mac (j + 1) := by
  intro k hk hle
  by_cases e : k = j
  · subst e; exact h1
  · exact h k (by omega) hle
theorem NoC.done {s : List UInt8} {now p : Nat} {src sg mac : List UInt8} {j : Nat} (h : NoC s (epN now p) src sg mac j) (hj : j = 2 ∨ epN now p < j) : vaB s now p src sg mac = false := by
  have h0 : ¬ sgC (ckL s (epN now p) src) sg = mac := fun e => h 0 (by omega) (Nat.zero_le _) e.symm
  unfold vaB
  rw [decide_eq_false h0, Bool.false_or]
  by_cases hE : 0 < epN now p
  · have h1 : ¬ sgC (ckL s (epN now p - 1) src) sg = mac := fun e => h 1 (by omega) (by omega) e.symm
    rw [decide_eq_false h1, Bool.and_false]
  · rw [decide_eq_false hE, Bool.false_and]
theorem va_yes {s : List UInt8} {now p : Nat} {src sg mac : List UInt8} {j : Nat} (hj : j < 2) (hE : j ≤ epN now p) (h : mac = sgC (ckL s (epN now p - j) src) sg) : vaB s now p src sg mac = true := by
  unfold vaB
  rcases (by omega : j = 0 ∨ j = 1) with rfl | rfl
  · rw [h]; simp
  · have h1 : 0 < epN now p := by omega
    rw [h]; simp [h1]
theorem retB21 {b c : Bool} (h : c = b) : Ending.returned (.bool b) = Ending.returned (.bool c) := by rw [h]

set_option maxRecDepth 100000 in
set_option maxHeartbeats 4000000 in
theorem cvalid_any (vs vg vm : Value) (s src sg mac : List UInt8) (now p : Nat) (h1 : now < 18446744073709551616) (h2 : p < 18446744073709551616) (hc : src.length ≤ 100000) (hg : sg.length ≤ 100000) (w : World) (hr : Rd w vs s) (hrg : Rd w vg sg) (hrm : Rd w vm mac) (ht : Tabs w) :
    Calls Tryd.prog 14 #[vs, .int .u64 (now : Int), .int .u64 (p : Int), .string ⟨src.toArray⟩, vg, vm] w fun r w' => r = .returned (.bool (vaB s now p src sg mac)) ∧ Below w.heap.size w w' := by
  have HN : Hid (now < 18446744073709551616 ∧ p < 18446744073709551616 ∧ src.length ≤ 100000 ∧ sg.length ≤ 100000) := ⟨h1, h2, hc, hg⟩
  have HR : Hid (Rd w vs s ∧ Rd w vg sg ∧ Rd w vm mac ∧ Tabs w) := ⟨hr, hrg, hrm, ht⟩
  have hle := epN_le now p
  obtain ⟨E, hE⟩ : ∃ E, E = epN now p := ⟨_, rfl⟩
  have hE64 : E < 18446744073709551616 := by omega
  have HE : Hid (E = epN now p) := hE
  obtain ⟨sa, cs, rfl, -⟩ := id hr
  obtain ⟨ag, cg, rfl, -⟩ := id hrg
  obtain ⟨am, cm, rfl, -⟩ := id hrm
  clear h1 h2 hc hg hr hrg hrm ht hE hle
  go_enter Tryd.func14, Tryd.ntmps14
  go_wp2_with fail
  refine (cepoch_any now p HN.out.1 HN.out.2.1 _).mono ?_
  rintro r w1 ⟨rfl, rfl⟩
  rw [← HE.out]
  go_wp2
  go_loopw [18] (fun iv wr => ∃ j : Nat, j ≤ 2 ∧ iv = .int .u64 (j : Int) ∧ Hid (NoC s E src sg mac j ∧ Below w1.heap.size w1 wr)) (fun iv _ => 2 - (intOf iv).toNat)
  case atStart => exact ⟨0, by omega, rfl, NoC.zero _ _ _ _ _, Below.refl _ _⟩
  case round =>
    obtain ⟨j, hj, rfl, HI⟩ := hrel
    by_cases hlt : j < 2
    · have hd : decide ((j : Int) < 2) = true := decide_eq_true (by omega)
      by_cases hgt : j ≤ E
      · have hd2 : decide ((E : Int) < (j : Int)) = false := decide_eq_false (by omega)
        obtain ⟨F, hF⟩ : ∃ F : Nat, F = E - j := ⟨_, rfl⟩
        have e1 : IntKind.u64.wrap ((E : Int) - (j : Int)) = (F : Int) := by rw [IntKind.wrap_u64]; omega
        have HF : Hid (F = E - j) := hF
        obtain ⟨hn, hb⟩ := HI.out
        obtain ⟨hr, hrg, hrm, ht⟩ := HR.out
        have HRr : Hid (Rd wr _ s ∧ Rd wr _ sg ∧ Rd wr _ mac ∧ Tabs wr) := ⟨hr.kept hb, hrg.kept hb, hrm.kept hb, ht.kept hb⟩
        have HB : Hid (NoC s E src sg mac j ∧ Below w1.heap.size w1 wr) := ⟨hn, hb⟩
        clear hn hb hr hrg hrm ht HI hF
        go_wp2_with fail
        refine (cmake_any _ s src F HN.out.2.2.1 _ HRr.out.1 HRr.out.2.2.2).mono ?_
        rintro r w2 ⟨v2, rfl, hR2, hB2⟩
        obtain ⟨a2, c2, rfl, -⟩ := id hR2
        have HR2 : Hid (Rd w2 _ (ckL s F src) ∧ Rd w2 _ sg ∧ Rd w2 _ mac ∧ Tabs w2) := ⟨hR2, HRr.out.2.1.kept hB2, HRr.out.2.2.1.kept hB2, HRr.out.2.2.2.kept hB2⟩
        have HB2 : Hid (NoC s E src sg mac j ∧ Below w1.heap.size w1 w2) := ⟨HB.out.1, stepB HB.out.2 hB2⟩
        clear hR2 hB2 HB HRr
        go_wp2_with fail
        refine (csign_any _ _ (ckL s F src) sg HN.out.2.2.2 _ HR2.out.1 HR2.out.2.1 HR2.out.2.2.2).mono ?_
        rintro r w3 ⟨v3, rfl, hR3, hB3⟩
        obtain ⟨a3, c3, rfl, -⟩ := id hR3
        have HR3 : Hid (Rd w3 _ (sgC (ckL s F src) sg) ∧ Rd w3 _ mac) := ⟨hR3, HR2.out.2.2.1.kept hB3⟩
        have HB3 : Hid (NoC s E src sg mac j ∧ Below w1.heap.size w1 w3) := ⟨HB2.out.1, stepB HB2.out.2 hB3⟩
        clear hR3 hB3 HB2 HR2
        go_wp2_with fail
        refine (equal_any _ _ mac (sgC (ckL s F src) sg) _ HR3.out.2 HR3.out.1).mono ?_
        rintro r w4 ⟨rfl, hB4⟩
        have HB4 : Hid (NoC s E src sg mac j ∧ Below w1.heap.size w1 w4) := ⟨HB3.out.1, stepB HB3.out.2 hB4⟩
        clear hB4 HB3 HR3
        by_cases hq : mac = sgC (ckL s F src) sg
        · have HV : Hid (vaB s now p src sg mac = true) := (va_yes hlt (by rw [← HE.out]; exact hgt) (by rw [← HE.out, ← HF.out]; exact hq) : vaB s now p src sg mac = true)
          rw [decide_eq_true hq]
          clear hq
          go_wp2
          go_ret
          exact ⟨retB21 HV.out, HB4.out.2⟩
        · have HI4 : Hid (NoC s E src sg mac (j + 1) ∧ Below w1.heap.size w1 w4) := ⟨HB4.out.1.next (by rw [← HF.out]; exact hq), HB4.out.2⟩
          rw [decide_eq_false hq]
          have ei : IntKind.u64.wrap ((j : Int) + 1) = ((j + 1 : Nat) : Int) := by rw [IntKind.wrap_u64]; omega
          clear hq HB4
          go_wp2
          go_roundw
          case rel => exact ⟨j + 1, by omega, by go_num, HI4⟩
          case measure => simp [intOf] <;> omega
      · have hd2 : decide ((E : Int) < (j : Int)) = true := decide_eq_true (by omega)
        have HV : Hid (vaB s now p src sg mac = false) := (NoC.done (j := j) (by rw [← HE.out]; exact HI.out.1) (.inr (by rw [← HE.out]; omega)) : vaB s now p src sg mac = false)
        go_wp2
        go_ret
        exact ⟨retB21 HV.out, HI.out.2⟩
    · have hd : decide ((j : Int) < 2) = false := decide_eq_false (by omega)
      have hj2 : j = 2 := by omega
      have HV : Hid (vaB s now p src sg mac = false) := (NoC.done (j := j) (by rw [← HE.out]; exact HI.out.1) (.inl hj2) : vaB s now p src sg mac = false)
      go_wp2
      go_ret
      exact ⟨retB21 HV.out, HI.out.2⟩

/-- The same, with what comes in told by equations. -/
theorem cepoch_at (now p : Nat) (A B : Int) (hA : A = (now : Int)) (hB : B = (p : Int)) (h1 : now < 18446744073709551616) (h2 : p < 18446744073709551616) (w : World) :
    Calls Tryd.prog 8 #[.int .u64 A, .int .u64 B] w fun e w' => e = .returned (.int .u64 ((epN now p : Nat) : Int)) ∧ w' = w := by
  subst hA hB; exact cepoch_any now p h1 h2 w
theorem cmake_at (vs : Value) (s src : List UInt8) (e : Nat) (E : Int) (hE : E = (e : Int)) (S : ByteArray) (hS : S = ⟨src.toArray⟩) (hc : src.length ≤ 100000) (w : World) (hr : Rd w vs s) (ht : Tabs w) :
    Calls Tryd.prog 9 #[vs, .int .u64 E, .string S] w fun r w' => ∃ v, r = .returned v ∧ Rd w' v (ckL s e src) ∧ Below w.heap.size w w' := by
  subst hE hS; exact cmake_any vs s src e hc w hr ht
theorem cvalid_at (vs vg vm : Value) (s src sg mac : List UInt8) (now p : Nat) (A B : Int) (hA : A = (now : Int)) (hB : B = (p : Int)) (S : ByteArray) (hS : S = ⟨src.toArray⟩) (h1 : now < 18446744073709551616) (h2 : p < 18446744073709551616) (hc : src.length ≤ 100000) (hg : sg.length ≤ 100000) (w : World) (hr : Rd w vs s) (hrg : Rd w vg sg) (hrm : Rd w vm mac) (ht : Tabs w) :
    Calls Tryd.prog 14 #[vs, .int .u64 A, .int .u64 B, .string S, vg, vm] w fun r w' => r = .returned (.bool (vaB s now p src sg mac)) ∧ Below w.heap.size w w' := by
  subst hA hB hS; exact cvalid_any vs vg vm s src sg mac now p h1 h2 hc hg w hr hrg hrm ht
end Go.Proofs.YtfiefohdceokdaaDoor
