/- What a source must show, codes, and which are valid: contracts of the reference of layer 21. -/
import Derived.Test.YtfiefohdceokdaaDoorCkMath
import Derived.Test.YtfiefohdceokdaaDoorRfb
import Derived.Test.YtfiefohdceokdaaDoorRef04a
import Derived.Test.YtfiefohdceokdaaDoorSyStr
import Derived.Test.YtfiefohdceokdaaDoorCut
import Derived.Test.YtfiefohdceokdaaDoorBase
import Derived.OwnWalk
namespace Go.Proofs.YtfiefohdceokdaaDoor
open Go.ChangeShapes Go.WideShapes Go.ChangeAt Go.RowKit
set_option linter.unusedSimpArgs false
set_option linter.unusedVariables false

theorem wpList_val21 {P : Program} {ops : Array Oper} {rest : List Oper} {op : Oper} {a : Act} {w : World} {Q : Exit → Act → World → Prop} (hgd : op.guard = none) {v : Value} (hy : (execOp a.eval op).run P w = .ok (.value v) w)
    (h : wpList P ops Q rest (a.put op.dst v) w) : wpList P ops Q (op :: rest) a w := by
  refine wpList_plain hgd fun K hK => ?_
  unfold Oper.wp
  rw [hy]
  exact hK _ _ h
theorem conv21 {w : World} {v : Value} {l : List UInt8} (h : Rd w v l) : (convert 22 9 v).run Tryd.prog w = .ok (.string ⟨l.toArray⟩) w := h.conv Tryd.underlying22 Tryd.underlying5 Tryd.underlying9

theorem ret21 {b c : Bool} (h : c = b) : Ending.returned (.bool b) = Ending.returned (.bool c) := by rw [h]
theorem epoch21_any (now p : Nat) (h1 : now < 18446744073709551616) (h2 : p < 18446744073709551616) (w : World) :
    Calls Tryd.prog 10 #[.int .u64 (now : Int), .int .u64 (p : Int)] w fun e w' => e = .returned (.int .u64 ((epN now p : Nat) : Int)) ∧ w' = w := by
  by_cases h : p = 0
  · subst h
    have HE : Hid ((epN now 0 : Nat) = now) := rfl
    clear h1 h2
    go_enter Tryd.func10, Tryd.ntmps10
    go_wp2
    go_ret
    exact ⟨retI (by rw [HE.out]), rfl⟩
  · have d : ((p : Int) == 0) = false := by rw [beq_eq_false_iff_ne]; omega
    have hp : ¬ (p : Int) = 0 := by omega
    have hpN : ¬ p = 0 := h
    have HE : Hid ((epN now p : Nat) = now / p) := (by unfold epN; rw [if_neg h] : epN now p = now / p)
    have hd : Int.tdiv (now : Int) (p : Int) = ((now / p : Nat) : Int) := by rw [Int.tdiv_eq_ediv_of_nonneg (by omega)]; exact (Int.natCast_ediv now p).symm
    have hle := Nat.div_le_self now p
    have hw : IntKind.u64.wrap ((now / p : Nat) : Int) = ((now / p : Nat) : Int) := by rw [IntKind.wrap_u64]; generalize now / p = q at hle ⊢; omega
    generalize now / p = q at HE hd hle hw
    clear h h1 h2 hle
    go_enter Tryd.func10, Tryd.ntmps10
    go_wp2
    go_ret
    exact ⟨retI (by rw [HE.out]), rfl⟩

set_option maxRecDepth 100000 in
set_option maxHeartbeats 2000000 in
theorem make21_any (vs : Value) (s src : List UInt8) (e : Nat) (he : e < 18446744073709551616) (hs : s.length ≤ 100000) (hc : src.length ≤ 100000) (w : World) (hr : Rd w vs s) :
    Calls Tryd.prog 11 #[vs, .int .u64 (e : Int), .string ⟨src.toArray⟩] w fun r w' => ∃ v, r = .returned v ∧ Rd w' v (ckL s e src) ∧ Below w.heap.size w w' := by
  have HS : Hid (s.length ≤ 100000) := hs
  have HC : Hid (src.length ≤ 100000) := hc
  have HE : Hid (e < 18446744073709551616) := he
  have HR : Hid (Rd w vs s) := hr
  have HV : Hid (ckL s e src = (mcF (mcF s ((List.range 8).map (stB e))) src).take 16) := rfl
  obtain ⟨G, hG⟩ : ∃ G, G = ckL s e src := ⟨_, rfl⟩
  rw [← hG] at HV ⊢
  obtain ⟨sa, cs, rfl, -⟩ := id hr
  clear hs hc he hr hG
  go_enter Tryd.func11, Tryd.ntmps11
  go_wp2_with fail
  refine (refstore_k e HE.out 8 8 (by decide) (by omega) _).mono ?_
  rintro r w1 ⟨v1, rfl, hN1⟩
  have HL1 : Hid (((List.range 8).map (stB e)).length ≤ 100000) := by show _ ≤ _; simp
  generalize (List.range 8).map (stB e) = E at hN1 HV HL1
  have HR1 : Hid (Rd w1 (.slice sa s.length cs) s) := HR.out.kept hN1.2
  have HE1 : Hid (Rd w1 v1 E) := hN1.rd
  have HB1 : Hid (Below w.heap.size w w1) := hN1.2
  obtain ⟨a1, c1, rfl, -⟩ := id hN1.rd
  clear hN1
  go_wp2_with fail
  refine (macR_any _ _ s E HS.out HL1.out _ HR1.out HE1.out).mono ?_
  rintro r w2 ⟨v2, rfl, hR2, hB2⟩
  have HL2 : Hid ((mcF s E).length = 32) := mcF_length _ _
  generalize mcF s E = K at hR2 HV HL2
  obtain ⟨a2, c2, rfl, -⟩ := id hR2
  have HR2 : Hid (Rd w2 (.slice a2 K.length c2) K) := hR2
  have HB2 : Hid (Below w.heap.size w w2) := stepB HB1.out hB2
  clear hR2 hB2 HB1 HR1 HE1
  go_wp2_with (refine wpList_conv_text rfl _ 9 22 5 rfl Tryd.underlying9 Tryd.underlying22 Tryd.underlying5 src rfl (by have := HC.out; unfold maxLen; omega) ?_)
  intro v3 w3 hR3 hB3
  obtain ⟨a3, c3, rfl, -⟩ := id hR3
  have HR3 : Hid (Rd w3 (.slice a3 src.length c3) src) := hR3
  have HK3 : Hid (Rd w3 (.slice a2 K.length c2) K) := HR2.out.kept hB3
  have HB3 : Hid (Below w.heap.size w w3) := stepB HB2.out hB3
  clear hR3 hB3 HR2 HB2
  go_wp2_with fail
  refine (macR_any _ _ K src (by rw [HL2.out]; decide) HC.out _ HK3.out HR3.out).mono ?_
  rintro r w4 ⟨v4, rfl, hR4, hB4⟩
  have hL4 : (mcF K src).length = 32 := mcF_length _ _
  generalize mcF K src = M at hR4 HV hL4
  obtain ⟨a4, c4, rfl, hc4, hm4, hn4, -⟩ := id hR4
  rw [hL4] at hR4 hc4 ⊢
  have HR4 : Hid (Rd w4 (.slice a4 16 c4) (M.take 16)) := Rd.take hR4 (n := 16) (by decide)
  have HX : Hid (16 ≤ 32 ∧ 32 ≤ c4 ∧ c4 ≤ maxLen ∧ (a4 = none → c4 = 0)) := ⟨by decide, hc4, hm4, hn4⟩
  have HB4 : Hid (Below w.heap.size w w4) := stepB HB3.out hB4
  clear hR4 hB4 hc4 hm4 hn4 hL4 HR3 HK3 HB3
  go_wp2_with (refine wpList_val21 rfl (exec_head (m := 16) _ _ (by rfl) (by rfl) (by rfl) HX.out.1 HX.out.2.1 HX.out.2.2.1 HX.out.2.2.2) ?_)
  go_ret
  exact ⟨_, rfl, by rw [HV.out]; exact HR4.out, HB4.out⟩

set_option maxRecDepth 100000 in
set_option maxHeartbeats 2000000 in
theorem sign21_any (vc vs : Value) (c s : List UInt8) (hc : c.length ≤ 100000) (hs : s.length ≤ 100000) (w : World) (h1 : Rd w vc c) (h2 : Rd w vs s) :
    Calls Tryd.prog 13 #[vc, vs] w fun r w' => ∃ v, r = .returned v ∧ Rd w' v (sgC c s) ∧ Below w.heap.size w w' := by
  have HC : Hid (c.length ≤ 100000) := hc
  have HS : Hid (s.length ≤ 100000) := hs
  have H1 : Hid (Rd w vc c) := h1
  have H2 : Hid (Rd w vs s) := h2
  have HV : Hid (sgC c s = (mcF c s).take 16) := rfl
  obtain ⟨G, hG⟩ : ∃ G, G = sgC c s := ⟨_, rfl⟩
  rw [← hG] at HV ⊢
  obtain ⟨sa, cs, rfl, -⟩ := id h2
  obtain ⟨ac, cc, rfl, -⟩ := id h1
  clear hs hc h1 h2 hG
  go_enter Tryd.func13, Tryd.ntmps13
  go_wp2_with fail
  refine (macR_any _ _ c s HC.out HS.out _ H1.out H2.out).mono ?_
  rintro r w4 ⟨v4, rfl, hR4, hB4⟩
  have hL4 : (mcF c s).length = 32 := mcF_length _ _
  generalize mcF c s = M at hR4 HV hL4
  obtain ⟨a4, c4, rfl, hc4, hm4, hn4, -⟩ := id hR4
  rw [hL4] at hR4 hc4 ⊢
  have HR4 : Hid (Rd w4 (.slice a4 16 c4) (M.take 16)) := Rd.take hR4 (n := 16) (by decide)
  have HX : Hid (16 ≤ 32 ∧ 32 ≤ c4 ∧ c4 ≤ maxLen ∧ (a4 = none → c4 = 0)) := ⟨by decide, hc4, hm4, hn4⟩
  have HB4 : Hid (Below w.heap.size w w4) := hB4
  clear hR4 hB4 hc4 hm4 hn4 hL4
  go_wp2_with (refine wpList_val21 rfl (exec_head (m := 16) _ _ (by rfl) (by rfl) (by rfl) HX.out.1 HX.out.2.1 HX.out.2.2.1 HX.out.2.2.2) ?_)
  go_ret
  exact ⟨_, rfl, by rw [HV.out]; exact HR4.out, HB4.out⟩

set_option maxRecDepth 100000 in
set_option maxHeartbeats 4000000 in
theorem valid21_any (vs vg vm : Value) (s src sg mac : List UInt8) (now p : Nat) (h1 : now < 18446744073709551616) (h2 : p < 18446744073709551616) (hs : s.length ≤ 100000) (hc : src.length ≤ 100000) (hg : sg.length ≤ 100000) (w : World) (hr : Rd w vs s) (hrg : Rd w vg sg) (hrm : Rd w vm mac) :
    Calls Tryd.prog 15 #[vs, .int .u64 (now : Int), .int .u64 (p : Int), .string ⟨src.toArray⟩, vg, vm] w fun r w' => r = .returned (.bool (vaB s now p src sg mac)) ∧ Below w.heap.size w w' := by
  have H1 : Hid (now < 18446744073709551616) := h1
  have H2 : Hid (p < 18446744073709551616) := h2
  have HS : Hid (s.length ≤ 100000) := hs
  have HC : Hid (src.length ≤ 100000) := hc
  have HG : Hid (sg.length ≤ 100000) := hg
  have HR : Hid (Rd w vs s) := hr
  have HRg : Hid (Rd w vg sg) := hrg
  have HRm : Hid (Rd w vm mac) := hrm
  have hV : vaB s now p src sg mac = (decide (sgC (ckL s (epN now p) src) sg = mac) || (decide (0 < epN now p) && decide (sgC (ckL s (epN now p - 1) src) sg = mac))) := rfl
  have hle := epN_le now p
  obtain ⟨G, hG⟩ : ∃ G, G = vaB s now p src sg mac := ⟨_, rfl⟩
  rw [← hG] at hV ⊢
  obtain ⟨sa, cs, rfl, -⟩ := id hr
  obtain ⟨ag, cg, rfl, -⟩ := id hrg
  obtain ⟨am, cm, rfl, -⟩ := id hrm
  obtain ⟨E, hE⟩ : ∃ E, E = epN now p := ⟨_, rfl⟩
  rw [← hE] at hV hle
  have HEp : Hid (E = epN now p) := hE
  have HE64 : Hid (E < 18446744073709551616) := (by omega : E < 18446744073709551616)
  have HV : Hid (G = (decide (sgC (ckL s E src) sg = mac) || (decide (0 < E) && decide (sgC (ckL s (E - 1) src) sg = mac)))) := hV
  clear h1 h2 hs hc hg hr hrg hrm hG hE hle hV
  go_enter Tryd.func15, Tryd.ntmps15
  go_wp2_with fail
  refine (epoch21_any now p H1.out H2.out _).mono ?_
  rintro r w1 ⟨rfl, rfl⟩
  rw [← HEp.out]
  obtain ⟨A, hA⟩ : ∃ A, A = sgC (ckL s E src) sg := ⟨_, rfl⟩
  rw [← hA] at HV
  have HA : Hid (A = sgC (ckL s E src) sg) := hA
  clear hA
  by_cases hq : A = mac
  · have q1 : (A == mac) = true := by simpa using hq
    have HF : Hid (G = true) := (by rw [HV.out, decide_eq_true hq]; rfl : G = true)
    clear hq HV
    go_wp2_with fail
    refine wpG_begin (by kernel_rfl) ?_
    refine gU_ 0 rfl ⟨_, by intro W hW; go_simp <;> with_reducible rfl, ?_⟩
    try simp only [Act.put, pA_, pB_, pC_]
    refine gU_ 1 rfl ⟨_, by intro W hW; go_simp <;> with_reducible rfl, ?_⟩
    try simp only [Act.put, pA_, pB_, pC_]
    refine gU_ 2 rfl ⟨_, by intro W hW; go_simp <;> with_reducible rfl, ?_⟩
    try simp only [Act.put, pA_, pB_, pC_]
    refine gU_ 4 rfl ⟨_, by intro W hW; go_simp <;> with_reducible rfl, ?_⟩
    try simp only [Act.put, pA_, pB_, pC_]
    refine gU_ 7 rfl ⟨_, by intro W hW; go_simp <;> with_reducible rfl, ?_⟩
    try simp only [Act.put, pA_, pB_, pC_]
    refine gU_ 8 rfl ⟨_, by intro W hW; have hcv := conv21 (HRm.out.drew.kept hW); go_simp <;> with_reducible rfl, ?_⟩
    try simp only [Act.put, pA_, pB_, pC_]
    refine gD_ 3 fun K hK => ?_
    go_simp
    refine (make21_any _ s src E HE64.out HS.out HC.out _ HR.out.drew).mono ?_
    rintro r w2 ⟨v2, rfl, hR2, hB2⟩
    obtain ⟨a2, c2, rfl, -⟩ := id hR2
    refine hK.out _ _ hB2 ?_
    clear hK K
    have hRg2 := HRg.out.drew.kept hB2
    try simp only [Act.put, pA_, pB_, pC_]
    refine gD_ 5 fun K hK => ?_
    go_simp
    refine (sign21_any _ _ (ckL s E src) sg (by rw [ckL_length]; decide) HG.out _ hR2 hRg2).mono ?_
    rintro r w3 ⟨v3, rfl, hR3, hB3⟩
    rw [← HA.out] at hR3
    refine hK.out _ _ hB3 ?_
    clear hK K
    try simp only [Act.put, pA_, pB_, pC_]
    refine gU_ 6 rfl ⟨_, by intro W hW; have hcv := conv21 (hR3.kept hW); go_simp <;> with_reducible rfl, ?_⟩
    try simp only [Act.put, pA_, pB_, pC_]
    refine gU_ 9 rfl ⟨_, by intro W hW; go_simp <;> with_reducible rfl, ?_⟩
    try simp only [Act.put, pA_, pB_, pC_]
    refine wpG_done (by kernel_rfl) ?_
    have HB3 : Hid (Below _ _ w3) := stepB (stepB (Below.refl _ _).drew hB2) hB3
    clear hR2 hB2 hRg2 hR3 hB3
    go_wp2
    go_ret
    exact ⟨ret21 HF.out, HB3.out⟩
  · have q1 : (A == mac) = false := by simpa using hq
    by_cases h0 : 0 < E
    rotate_left
    · have dE : decide ((0 : Int) < (E : Int)) = false := decide_eq_false (by omega)
      have dN : decide (0 < E) = false := decide_eq_false h0
      have HF : Hid (G = false) := (by rw [HV.out, decide_eq_false hq, decide_eq_false h0]; rfl : G = false)
      clear hq HV h0
      go_wp2_with fail
      refine wpG_begin (by kernel_rfl) ?_
      refine gU_ 0 rfl ⟨_, by intro W hW; go_simp <;> with_reducible rfl, ?_⟩
      try simp only [Act.put, pA_, pB_, pC_]
      refine gU_ 1 rfl ⟨_, by intro W hW; go_simp <;> with_reducible rfl, ?_⟩
      try simp only [Act.put, pA_, pB_, pC_]
      refine gU_ 2 rfl ⟨_, by intro W hW; go_simp <;> with_reducible rfl, ?_⟩
      try simp only [Act.put, pA_, pB_, pC_]
      refine gU_ 4 rfl ⟨_, by intro W hW; go_simp <;> with_reducible rfl, ?_⟩
      try simp only [Act.put, pA_, pB_, pC_]
      refine gU_ 7 rfl ⟨_, by intro W hW; go_simp <;> with_reducible rfl, ?_⟩
      try simp only [Act.put, pA_, pB_, pC_]
      refine gU_ 8 rfl ⟨_, by intro W hW; have hcv := conv21 (HRm.out.drew.kept hW); go_simp <;> with_reducible rfl, ?_⟩
      try simp only [Act.put, pA_, pB_, pC_]
      refine gD_ 3 fun K hK => ?_
      go_simp
      refine (make21_any _ s src E HE64.out HS.out HC.out _ HR.out.drew).mono ?_
      rintro r w2 ⟨v2, rfl, hR2, hB2⟩
      obtain ⟨a2, c2, rfl, -⟩ := id hR2
      refine hK.out _ _ hB2 ?_
      clear hK K
      have hRg2 := HRg.out.drew.kept hB2
      try simp only [Act.put, pA_, pB_, pC_]
      refine gD_ 5 fun K hK => ?_
      go_simp
      refine (sign21_any _ _ (ckL s E src) sg (by rw [ckL_length]; decide) HG.out _ hR2 hRg2).mono ?_
      rintro r w3 ⟨v3, rfl, hR3, hB3⟩
      rw [← HA.out] at hR3
      refine hK.out _ _ hB3 ?_
      clear hK K
      try simp only [Act.put, pA_, pB_, pC_]
      refine gU_ 6 rfl ⟨_, by intro W hW; have hcv := conv21 (hR3.kept hW); go_simp <;> with_reducible rfl, ?_⟩
      try simp only [Act.put, pA_, pB_, pC_]
      refine gU_ 9 rfl ⟨_, by intro W hW; go_simp <;> with_reducible rfl, ?_⟩
      try simp only [Act.put, pA_, pB_, pC_]
      refine wpG_done (by kernel_rfl) ?_
      have HB3 : Hid (Below _ _ w3) := stepB (stepB (Below.refl _ _).drew hB2) hB3
      clear hR2 hB2 hRg2 hR3 hB3 q1
      go_wp2_with fail
      refine wpG_begin (by kernel_rfl) ?_
      refine gU_ 0 rfl ⟨_, by intro W hW; go_simp <;> with_reducible rfl, ?_⟩
      try simp only [Act.put, pA_, pB_, pC_]
      refine gU_ 1 rfl ⟨_, by intro W hW; go_simp <;> with_reducible rfl, ?_⟩
      try simp only [Act.put, pA_, pB_, pC_]
      refine gU_ 2 rfl ⟨_, by intro W hW; go_simp <;> with_reducible rfl, ?_⟩
      try simp only [Act.put, pA_, pB_, pC_]
      refine wpG_skip (i := 3) (nA rfl) (by kernel_rfl) (by kernel_rfl) (by kernel_rfl) (by rfl) ?_
      try simp only [Act.put, pA_, pB_, pC_]
      refine wpG_skip (i := 4) (nA rfl) (by kernel_rfl) (by kernel_rfl) (by kernel_rfl) (by rfl) ?_
      try simp only [Act.put, pA_, pB_, pC_]
      refine wpG_skip (i := 5) (nA rfl) (by kernel_rfl) (by kernel_rfl) (by kernel_rfl) (by rfl) ?_
      try simp only [Act.put, pA_, pB_, pC_]
      refine wpG_skip (i := 6) (nA rfl) (by kernel_rfl) (by kernel_rfl) (by kernel_rfl) (by rfl) ?_
      try simp only [Act.put, pA_, pB_, pC_]
      refine wpG_skip (i := 7) (nA rfl) (by kernel_rfl) (by kernel_rfl) (by kernel_rfl) (by rfl) ?_
      try simp only [Act.put, pA_, pB_, pC_]
      refine wpG_skip (i := 8) (nA rfl) (by kernel_rfl) (by kernel_rfl) (by kernel_rfl) (by rfl) ?_
      try simp only [Act.put, pA_, pB_, pC_]
      refine wpG_skip (i := 9) (nA rfl) (by kernel_rfl) (by kernel_rfl) (by kernel_rfl) (by rfl) ?_
      try simp only [Act.put, pA_, pB_, pC_]
      refine wpG_skip (i := 10) (nA rfl) (by kernel_rfl) (by kernel_rfl) (by kernel_rfl) (by rfl) ?_
      try simp only [Act.put, pA_, pB_, pC_]
      refine wpG_skip (i := 11) (nA rfl) (by kernel_rfl) (by kernel_rfl) (by kernel_rfl) (by rfl) ?_
      try simp only [Act.put, pA_, pB_, pC_]
      refine wpG_skip (i := 12) (nA rfl) (by kernel_rfl) (by kernel_rfl) (by kernel_rfl) (by rfl) ?_
      try simp only [Act.put, pA_, pB_, pC_]
      refine wpG_skip (i := 13) (nA rfl) (by kernel_rfl) (by kernel_rfl) (by kernel_rfl) (by rfl) ?_
      try simp only [Act.put, pA_, pB_, pC_]
      refine gU_ 14 rfl ⟨_, by intro W hW; go_simp <;> with_reducible rfl, ?_⟩
      try simp only [Act.put, pA_, pB_, pC_]
      refine gU_ 15 rfl ⟨_, by intro W hW; go_simp <;> with_reducible rfl, ?_⟩
      try simp only [Act.put, pA_, pB_, pC_]
      refine wpG_done (by kernel_rfl) ?_
      have HB4 : Hid (Below _ _ w3.drew) := HB3.out.drew
      go_wp2
      go_ret
      exact ⟨ret21 HF.out, HB4.out⟩
    have dE : decide ((0 : Int) < (E : Int)) = true := decide_eq_true (by omega)
    have dN : decide (0 < E) = true := decide_eq_true h0
    have hwr : IntKind.u64.wrap ((E : Int) - 1) = ((E - 1 : Nat) : Int) := by rw [IntKind.wrap_u64]; have := HE64.out; omega
    have HE1 : Hid (E - 1 < 18446744073709551616) := (by have := HE64.out; omega : E - 1 < 18446744073709551616)
    obtain ⟨B, hB⟩ : ∃ B, B = sgC (ckL s (E - 1) src) sg := ⟨_, rfl⟩
    rw [← hB] at HV
    have HBv : Hid (B = sgC (ckL s (E - 1) src) sg) := hB
    obtain ⟨q, hqb⟩ : ∃ q : Bool, q = decide (B = mac) := ⟨_, rfl⟩
    have HF : Hid (G = q) := (by rw [HV.out, decide_eq_false hq, decide_eq_true h0, hqb]; simp : G = q)
    have q2 : (B == mac) = q := by rw [hqb]; by_cases h : B = mac <;> simp [h]
    obtain ⟨F, hFe⟩ : ∃ F : Nat, F = E - 1 := ⟨_, rfl⟩
    rw [← hFe] at hwr HE1 HBv
    clear hq HV hB hqb hFe
    go_wp2_with fail
    refine wpG_begin (by kernel_rfl) ?_
    refine gU_ 0 rfl ⟨_, by intro W hW; go_simp <;> with_reducible rfl, ?_⟩
    try simp only [Act.put, pA_, pB_, pC_]
    refine gU_ 1 rfl ⟨_, by intro W hW; go_simp <;> with_reducible rfl, ?_⟩
    try simp only [Act.put, pA_, pB_, pC_]
    refine gU_ 2 rfl ⟨_, by intro W hW; go_simp <;> with_reducible rfl, ?_⟩
    try simp only [Act.put, pA_, pB_, pC_]
    refine gU_ 4 rfl ⟨_, by intro W hW; go_simp <;> with_reducible rfl, ?_⟩
    try simp only [Act.put, pA_, pB_, pC_]
    refine gU_ 7 rfl ⟨_, by intro W hW; go_simp <;> with_reducible rfl, ?_⟩
    try simp only [Act.put, pA_, pB_, pC_]
    refine gU_ 8 rfl ⟨_, by intro W hW; have hcv := conv21 (HRm.out.drew.kept hW); go_simp <;> with_reducible rfl, ?_⟩
    try simp only [Act.put, pA_, pB_, pC_]
    refine gD_ 3 fun K hK => ?_
    go_simp
    refine (make21_any _ s src E HE64.out HS.out HC.out _ HR.out.drew).mono ?_
    rintro r w2 ⟨v2, rfl, hR2, hB2⟩
    obtain ⟨a2, c2, rfl, -⟩ := id hR2
    refine hK.out _ _ hB2 ?_
    clear hK K
    have hRg2 := HRg.out.drew.kept hB2
    try simp only [Act.put, pA_, pB_, pC_]
    refine gD_ 5 fun K hK => ?_
    go_simp
    refine (sign21_any _ _ (ckL s E src) sg (by rw [ckL_length]; decide) HG.out _ hR2 hRg2).mono ?_
    rintro r w3 ⟨v3, rfl, hR3, hB3⟩
    rw [← HA.out] at hR3
    refine hK.out _ _ hB3 ?_
    clear hK K
    try simp only [Act.put, pA_, pB_, pC_]
    refine gU_ 6 rfl ⟨_, by intro W hW; have hcv := conv21 (hR3.kept hW); go_simp <;> with_reducible rfl, ?_⟩
    try simp only [Act.put, pA_, pB_, pC_]
    refine gU_ 9 rfl ⟨_, by intro W hW; go_simp <;> with_reducible rfl, ?_⟩
    try simp only [Act.put, pA_, pB_, pC_]
    refine wpG_done (by kernel_rfl) ?_
    have HB3 : Hid (Below _ _ w3) := stepB (stepB (Below.refl _ _).drew hB2) hB3
    clear hR2 hB2 hRg2 hR3 q1
    have HR3 : Hid (Rd w3 _ _) := HR.out.kept HB3.out
    have HRg3 : Hid (Rd w3 _ _) := HRg.out.kept HB3.out
    have HRm3 : Hid (Rd w3 _ _) := HRm.out.kept HB3.out
    clear hB3
    go_wp2_with fail
    refine wpG_begin (by kernel_rfl) ?_
    refine gU_ 0 rfl ⟨_, by intro W hW; go_simp <;> with_reducible rfl, ?_⟩
    try simp only [Act.put, pA_, pB_, pC_]
    refine gU_ 1 rfl ⟨_, by intro W hW; go_simp <;> with_reducible rfl, ?_⟩
    try simp only [Act.put, pA_, pB_, pC_]
    refine gU_ 2 rfl ⟨_, by intro W hW; go_simp <;> with_reducible rfl, ?_⟩
    try simp only [Act.put, pA_, pB_, pC_]
    refine gU_ 3 rfl ⟨_, by intro W hW; go_simp <;> with_reducible rfl, ?_⟩
    try simp only [Act.put, pA_, pB_, pC_]
    refine gU_ 4 rfl ⟨_, by intro W hW; go_simp <;> with_reducible rfl, ?_⟩
    try simp only [Act.put, pA_, pB_, pC_]
    refine gU_ 5 rfl ⟨_, by intro W hW; go_simp <;> with_reducible rfl, ?_⟩
    try simp only [Act.put, pA_, pB_, pC_]
    refine gU_ 6 rfl ⟨_, by intro W hW; go_simp <;> with_reducible rfl, ?_⟩
    try simp only [Act.put, pA_, pB_, pC_]
    refine gU_ 8 rfl ⟨_, by intro W hW; go_simp <;> with_reducible rfl, ?_⟩
    try simp only [Act.put, pA_, pB_, pC_]
    refine gU_ 11 rfl ⟨_, by intro W hW; go_simp <;> with_reducible rfl, ?_⟩
    try simp only [Act.put, pA_, pB_, pC_]
    refine gU_ 12 rfl ⟨_, by intro W hW; have hcv := conv21 (HRm3.out.drew.kept hW); go_simp <;> with_reducible rfl, ?_⟩
    try simp only [Act.put, pA_, pB_, pC_]
    refine gD_ 7 fun K hK => ?_
    go_simp
    refine (make21_any _ s src F HE1.out HS.out HC.out _ HR3.out.drew).mono ?_
    rintro r w4 ⟨v4, rfl, hR4, hB4⟩
    obtain ⟨a4, c4, rfl, -⟩ := id hR4
    refine hK.out _ _ hB4 ?_
    clear hK K
    have hRg4 := HRg3.out.drew.kept hB4
    try simp only [Act.put, pA_, pB_, pC_]
    refine gD_ 9 fun K hK => ?_
    go_simp
    refine (sign21_any _ _ (ckL s F src) sg (by rw [ckL_length]; decide) HG.out _ hR4 hRg4).mono ?_
    rintro r w5 ⟨v5, rfl, hR5, hB5⟩
    rw [← HBv.out] at hR5
    refine hK.out _ _ hB5 ?_
    clear hK K
    try simp only [Act.put, pA_, pB_, pC_]
    refine gU_ 10 rfl ⟨_, by intro W hW; have hcv := conv21 (hR5.kept hW); go_simp <;> with_reducible rfl, ?_⟩
    try simp only [Act.put, pA_, pB_, pC_]
    refine gU_ 13 rfl ⟨_, by intro W hW; go_simp <;> with_reducible rfl, ?_⟩
    try simp only [Act.put, pA_, pB_, pC_]
    refine gU_ 14 rfl ⟨_, by intro W hW; go_simp <;> with_reducible rfl, ?_⟩
    try simp only [Act.put, pA_, pB_, pC_]
    refine gU_ 15 rfl ⟨_, by intro W hW; go_simp <;> with_reducible rfl, ?_⟩
    try simp only [Act.put, pA_, pB_, pC_]
    refine wpG_done (by kernel_rfl) ?_
    have HB5 : Hid (Below _ _ w5) := stepB (stepB HB3.out.drew hB4) hB5
    clear hR4 hB4 hRg4 hR5 hB5
    go_wp2
    go_ret
    exact ⟨ret21 HF.out, HB5.out⟩
end Go.Proofs.YtfiefohdceokdaaDoor
