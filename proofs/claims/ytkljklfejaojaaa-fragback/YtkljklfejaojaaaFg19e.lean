/- The closures that tell which entries go, and which is older: contracts of package frag, fifth part. -/
import Derived.Test.YtkljklfejaojaaaFg19d
import Derived.LaidEqlPtr
import Derived.Test.YtkljklfejaojaaaReg
import Derived.Test.YtkljklfejaojaaaRegS
import Derived.Test.YtkljklfejaojaaaRegV
namespace Go.Proofs.Ytkljklfejaojaaa
open Go.ChangeShapes Go.WideShapes Go.ChangeAt Go.RowKit
set_option linter.unusedSimpArgs false
set_option linter.unusedVariables false

set_option maxRecDepth 100000 in
set_option maxHeartbeats 4000000 in
theorem cExpire_any (age now : Nat) (hn : now < 18446744073709551616) (g1 g2 gb : Nat) (x : Ey) (w : World) (hx : enF x w) (hb : x.e.born < 18446744073709551616) (h1 : w.cell? ⟨g1, 0, none⟩ = some (.int .u64 (now : Int))) (h2 : w.cell? ⟨g2, 0, none⟩ = some (pV gb)) (h3 : w.cell? ⟨gb, 2, none⟩ = some (.int .u64 (age : Int))) :
    Calls Try.prog 27 #[pV x.g, .pointer (some ⟨g1, 0, none⟩), .pointer (some ⟨g2, 0, none⟩)] w fun e w' => e = .returned (.bool (!yoE age now x.e)) ∧ Below w.heap.size w w' := by
  have c2 : w.cell? ⟨x.g, 2, none⟩ = some (.int .u64 (x.e.born : Int)) := BlkAt.cell hx 2
  have HY : Hid (yoE age now x.e = (decide (now ≤ x.e.born) || decide (now - x.e.born ≤ age))) := rfl
  obtain ⟨bo, hbo⟩ : ∃ b : Nat, b = x.e.born := ⟨_, rfl⟩
  rw [← hbo] at c2 hb HY
  obtain ⟨r, hr⟩ : ∃ r, r = yoE age now x.e := ⟨_, rfl⟩
  rw [← hr] at HY ⊢
  obtain ⟨g, hg⟩ : ∃ g, g = x.g := ⟨_, rfl⟩
  rw [← hg] at c2 ⊢
  clear hx hbo hg hr
  obtain ⟨D, hD⟩ : ∃ D : Nat, D = now - bo := ⟨_, rfl⟩
  have hways : (decide (now ≤ bo) = true ∧ r = true) ∨ (decide (now ≤ bo) = false ∧ IntKind.u64.wrap ((now : Int) - (bo : Int)) = (D : Int) ∧ decide (age < D) = !r) := by
    by_cases h : now ≤ bo
    · left
      have := HY.out
      rw [decide_eq_true h, Bool.true_or] at this
      exact ⟨decide_eq_true h, this⟩
    · right
      have := HY.out
      rw [decide_eq_false h, Bool.false_or, ← hD] at this
      refine ⟨decide_eq_false h, by rw [IntKind.wrap_u64]; omega, ?_⟩
      rw [this]
      by_cases h2 : D ≤ age
      · rw [decide_eq_true h2]
        exact decide_eq_false (by omega)
      · rw [decide_eq_false h2]
        exact decide_eq_true (by omega)
  clear HY hb hn
  rcases hways with ⟨hd, rfl⟩ | ⟨hd, hwr, hq⟩
  · have hd1 : decide (bo < now) = false := decide_eq_false (by have := of_decide_eq_true hd; omega)
    have hd2 : decide ((bo : Int) < (now : Int)) = false := decide_eq_false (by have := of_decide_eq_true hd; omega)
    have hle := of_decide_eq_true hd
    clear hd hD
    go_enter Try.func27, Try.ntmps27
    go_wp2_with fail
    go_quiet (fail)
    have bq := below_drewNF (Below.refl w.heap.size w) nq
    go_wp2
    go_ret
    exact ⟨rfl, bq⟩
  · have hd1 : decide (bo < now) = true := decide_eq_true (by have := of_decide_eq_false hd; omega)
    have hd2 : decide ((bo : Int) < (now : Int)) = true := decide_eq_true (by have := of_decide_eq_false hd; omega)
    have hle : bo < now := by have := of_decide_eq_false hd; omega
    have HQ : Hid (decide (age < D) = !r) := hq
    clear hd hD hq
    go_enter Try.func27, Try.ntmps27
    go_wp2_with fail
    go_quiet (fail)
    have bq := below_drewNF (Below.refl w.heap.size w) nq
    go_wp2
    go_ret
    exact ⟨by rw [← HQ.out]; rfl, bq⟩

theorem cellFD {w W : World} {p : Addr} {v : Value} (h : w.cell? p = some v) (hb : Below w.drew.heap.size w.drew W) : W.cell? p = some v := cellF (w := w.drew) h hb
theorem infoEn19 : ∃ j, Try.prog.info? 68 = some j ∧ j.size ≠ 0 := ⟨_, rfl, by decide⟩
/-- Two entries' places compared. -/
theorem eqP {w : World} {g h : Nat} {cs cs' : List Value} (hg : BlkAt g 68 cs w) (hh : BlkAt h 68 cs' w) : (binOp .eql 66 (pV g) (pV h)).run Try.prog w = .ok (.bool (decide (g = h))) w := by
  obtain ⟨j, hj, hs⟩ := infoEn19
  by_cases e : g = h
  · subst e
    rw [decide_eq_true rfl]
    exact run_eql_ptr_same w _ Try.underlying66 hj
  · rw [decide_eq_false e]
    exact run_eql_ptr_other w Try.underlying66 hj hs (by simp [e]) hg hh
set_option maxRecDepth 100000 in
set_option maxHeartbeats 4000000 in
theorem cSame_any (g g1 h : Nat) (cs cs' : List Value) (w : World) (hg : BlkAt g 68 cs w) (hh : BlkAt h 68 cs' w) (h1 : w.cell? ⟨g1, 0, none⟩ = some (pV h)) :
    Calls Try.prog 37 #[pV g, .pointer (some ⟨g1, 0, none⟩)] w fun e w' => e = .returned (.bool (decide (g = h))) ∧ Below w.heap.size w w' := by
  have he := eqP hg hh
  generalize decide (g = h) = r at he ⊢
  clear hg hh
  go_enter Try.func37, Try.ntmps37
  go_wp2
  go_ret
  exact ⟨rfl, Below.refl _ _⟩
set_option maxRecDepth 100000 in
set_option maxHeartbeats 4000000 in
theorem cRoom_any (g g1 h : Nat) (cs cs' : List Value) (w : World) (hg : BlkAt g 68 cs w) (hh : BlkAt h 68 cs' w) (h1 : w.cell? ⟨g1, 0, none⟩ = some (pV h)) :
    Calls Try.prog 50 #[pV g, .pointer (some ⟨g1, 0, none⟩)] w fun e w' => e = .returned (.bool (decide (g = h))) ∧ Below w.heap.size w w' := by
  have he := eqP hg hh
  generalize decide (g = h) = r at he ⊢
  clear hg hh
  go_enter Try.func50, Try.ntmps50
  go_wp2
  go_ret
  exact ⟨rfl, Below.refl _ _⟩
set_option maxRecDepth 100000 in
set_option maxHeartbeats 4000000 in
theorem cOther_any (p : List UInt8) (m : Int) (g1 g2 : Nat) (x : Ey) (w : World) (hx : enF x w) (h1 : w.cell? ⟨g1, 0, none⟩ = some (.string ⟨p.toArray⟩)) (h2 : w.cell? ⟨g2, 0, none⟩ = some (.int .i64 m)) :
    Calls Try.prog 53 #[pV x.g, .pointer (some ⟨g1, 0, none⟩), .pointer (some ⟨g2, 0, none⟩)] w fun e w' => e = .returned (.bool (!otE p m x.e)) ∧ Below w.heap.size w w' := by
  have c0 : w.cell? ⟨x.g, 0, none⟩ = some (.string ⟨x.e.peer.toArray⟩) := BlkAt.cell hx 0
  have c1 : w.cell? ⟨x.g, 1, none⟩ = some (.int .i64 x.e.msg) := BlkAt.cell hx 1
  have HY : Hid (otE p m x.e = (decide (x.e.peer = p) && !decide (x.e.msg = m))) := rfl
  obtain ⟨q, hq⟩ : ∃ q, q = x.e.peer := ⟨_, rfl⟩
  rw [← hq] at c0 HY
  obtain ⟨k, hk⟩ : ∃ q, q = x.e.msg := ⟨_, rfl⟩
  rw [← hk] at c1 HY
  obtain ⟨r, hr⟩ : ∃ r, r = otE p m x.e := ⟨_, rfl⟩
  rw [← hr] at HY ⊢
  obtain ⟨g, hg⟩ : ∃ g, g = x.g := ⟨_, rfl⟩
  rw [← hg] at c0 c1 ⊢
  clear hx hq hk hg hr
  have hways : (q = p ∧ r = !decide (k = m)) ∨ (q ≠ p ∧ r = false) := by
    by_cases h : q = p
    · left
      exact ⟨h, by rw [HY.out, decide_eq_true h, Bool.true_and]⟩
    · right
      exact ⟨h, by rw [HY.out, decide_eq_false h, Bool.false_and]⟩
  clear HY
  rcases hways with ⟨hqp, rfl⟩ | ⟨hqp, rfl⟩
  · subst hqp
    have HB : Hid ((k == m) = decide (k = m)) := by show _ = _; rw [Bool.eq_iff_iff]; simp
    go_enter Try.func53, Try.ntmps53
    go_wp2_with fail
    go_quiet (fail)
    have bq := below_drewNF (Below.refl w.heap.size w) nq
    go_wp2
    go_ret
    exact ⟨by simp [HB.out], bq⟩
  · have hb : (q == p) = false := beq_eq_false_iff_ne.2 hqp
    have hd : decide (q = p) = false := decide_eq_false hqp
    go_enter Try.func53, Try.ntmps53
    go_wp2_with fail
    go_quiet (fail)
    have bq := below_drewNF (Below.refl w.heap.size w) nq
    go_wp2
    go_ret
    exact ⟨by simp, bq⟩

/-- Which of two numbers is less. -/
def cpI (a b : Nat) : Int := if a < b then -1 else if b < a then 1 else 0
set_option maxRecDepth 100000 in
set_option maxHeartbeats 4000000 in
theorem nan_any (a : Nat) (w : World) : Calls Try.prog 58 #[.int .u64 (a : Int)] w fun e w' => e = .returned (.bool false) ∧ w' = w := by
  go_enter Try.func58, Try.ntmps58
  go_wp2
  go_ret
  exact ⟨rfl, rfl⟩
set_option maxRecDepth 100000 in
set_option maxHeartbeats 4000000 in
theorem compare_any (a b : Nat) (w : World) : Calls Try.prog 56 #[.int .u64 (a : Int), .int .u64 (b : Int)] w fun e w' => e = .returned (.int .i64 (cpI a b)) ∧ w' = w := by
  have hways : (a < b ∧ cpI a b = -1) ∨ (b < a ∧ cpI a b = 1) ∨ (a = b ∧ cpI a b = 0) := by
    unfold cpI
    rcases Nat.lt_trichotomy a b with h | h | h
    · exact .inl ⟨h, if_pos h⟩
    · exact .inr (.inr ⟨h, by rw [if_neg (by omega), if_neg (by omega)]⟩)
    · exact .inr (.inl ⟨h, by rw [if_neg (by omega), if_pos h]⟩)
  rcases hways with ⟨h, hc⟩ | ⟨h, hc⟩ | ⟨h, hc⟩
  · rw [hc]
    clear hc
    have hd : decide (a < b) = true := decide_eq_true h
    have hdI : decide ((a : Int) < (b : Int)) = true := decide_eq_true (by omega)
    have hI : (a : Int) < (b : Int) := by omega
    go_enter Try.func56, Try.ntmps56
    go_wp2_with fail
    refine (nan_any a _).mono ?_
    rintro e w1 ⟨rfl, rfl⟩
    go_wp2_with fail
    refine (nan_any b _).mono ?_
    rintro e w2 ⟨rfl, rfl⟩
    go_wp2
    go_ret
    exact ⟨rfl, rfl⟩
  · rw [hc]
    clear hc
    have hd : decide (a < b) = false := decide_eq_false (by omega)
    have hdI : decide ((a : Int) < (b : Int)) = false := decide_eq_false (by omega)
    have hd2 : decide (b < a) = true := decide_eq_true h
    have hdI2 : decide ((b : Int) < (a : Int)) = true := decide_eq_true (by omega)
    have hI : (b : Int) < (a : Int) := by omega
    have hI2 : (b : Int) ≤ (a : Int) := by omega
    go_enter Try.func56, Try.ntmps56
    go_wp2_with fail
    refine (nan_any a _).mono ?_
    rintro e w1 ⟨rfl, rfl⟩
    go_wp2_with fail
    refine (nan_any b _).mono ?_
    rintro e w2 ⟨rfl, rfl⟩
    go_wp2
    go_ret
    exact ⟨rfl, rfl⟩
  · rw [hc]
    clear hc
    subst h
    go_enter Try.func56, Try.ntmps56
    go_wp2_with fail
    refine (nan_any a _).mono ?_
    rintro e w1 ⟨rfl, rfl⟩
    go_wp2_with fail
    refine (nan_any a _).mono ?_
    rintro e w2 ⟨rfl, rfl⟩
    go_wp2
    go_ret
    exact ⟨rfl, rfl⟩
set_option maxRecDepth 100000 in
set_option maxHeartbeats 4000000 in
theorem cOlder_any (x y : Ey) (w : World) (hx : enF x w) (hy : enF y w) :
    Calls Try.prog 55 #[pV x.g, pV y.g] w fun e w' => e = .returned (.int .i64 (cpI x.e.born y.e.born)) ∧ Below w.heap.size w w' := by
  have c2 : w.cell? ⟨x.g, 2, none⟩ = some (.int .u64 (x.e.born : Int)) := BlkAt.cell hx 2
  have d2 : w.cell? ⟨y.g, 2, none⟩ = some (.int .u64 (y.e.born : Int)) := BlkAt.cell hy 2
  obtain ⟨a, ha⟩ : ∃ a, a = x.e.born := ⟨_, rfl⟩
  obtain ⟨b, hb⟩ : ∃ a, a = y.e.born := ⟨_, rfl⟩
  rw [← ha] at c2 ⊢
  rw [← hb] at d2 ⊢
  obtain ⟨g, hg⟩ : ∃ g, g = x.g := ⟨_, rfl⟩
  obtain ⟨h, hh⟩ : ∃ g, g = y.g := ⟨_, rfl⟩
  rw [← hg] at c2 ⊢
  rw [← hh] at d2 ⊢
  clear hx hy ha hb hg hh
  go_enter Try.func55, Try.ntmps55
  go_wp2_with fail
  refine wpG_begin (by kernel_rfl) ?_
  refine gU_ 0 rfl ⟨_, by intro W hW; go_simp <;> with_reducible rfl, ?_⟩
  try simp only [Act.put, pA_, pB_, pC_]
  refine gU_ 1 rfl ⟨_, by intro W hW; go_simp <;> with_reducible rfl, ?_⟩
  try simp only [Act.put, pA_, pB_, pC_]
  refine gU_ 2 rfl ⟨_, by intro W hW; go_simp <;> with_reducible rfl, ?_⟩
  try simp only [Act.put, pA_, pB_, pC_]
  refine gU_ 3 rfl ⟨_, by intro W hW; have hcW := cellFD c2 hW; go_simp <;> with_reducible rfl, ?_⟩
  try simp only [Act.put, pA_, pB_, pC_]
  refine gU_ 4 rfl ⟨_, by intro W hW; go_simp <;> with_reducible rfl, ?_⟩
  try simp only [Act.put, pA_, pB_, pC_]
  refine gU_ 5 rfl ⟨_, by intro W hW; go_simp <;> with_reducible rfl, ?_⟩
  try simp only [Act.put, pA_, pB_, pC_]
  refine gU_ 6 rfl ⟨_, by intro W hW; go_simp <;> with_reducible rfl, ?_⟩
  try simp only [Act.put, pA_, pB_, pC_]
  refine gU_ 7 rfl ⟨_, by intro W hW; have hcW := cellFD d2 hW; go_simp <;> with_reducible rfl, ?_⟩
  try simp only [Act.put, pA_, pB_, pC_]
  refine gD_ 8 fun K hK => ?_
  go_simp
  refine (compare_any a b _).mono ?_
  rintro e w1 ⟨rfl, rfl⟩
  refine hK.out _ _ (Below.refl _ _) ?_
  clear hK K
  try simp only [Act.put, pA_, pB_, pC_]
  refine gU_ 9 rfl ⟨_, by intro W hW; go_simp <;> with_reducible rfl, ?_⟩
  try simp only [Act.put, pA_, pB_, pC_]
  refine wpG_done (by kernel_rfl) ?_
  go_wp2
  go_ret
  exact ⟨rfl, (Below.refl _ _).drew⟩
end Go.Proofs.Ytkljklfejaojaaa
