/- What functions of the program, or of the reference, answer: contracts; several texts in one. -/
import Derived.Test.YtliiofjcghdjoaaDoorSmt
import Derived.Test.YtliiofjcghdjoaaDoorRows
import Derived.Deep.QuietTactic
import Derived.BigQuiet
import Derived.WalkSpells
import Derived.RegionTactic
import Derived.BigRegion
import Derived.Test.YtliiofjcghdjoaaDoorBase
import Derived.OwnWalk

/- Numbers that came, as bits of two words: contracts of package window within a session, first part. -/
namespace Go.Proofs.YtliiofjcghdjoaaDoor
open Go.ChangeShapes Go.WideShapes Go.ChangeAt Go.RowKit
set_option linter.unusedSimpArgs false
set_option linter.unusedVariables false

/-- A session's cells, its window's told: the greatest number, two words. -/
def wiC (f : Nat → Value) (T a b : Nat) : List Value := [f 0, f 1, f 2, f 3, f 4, f 5, f 6, f 7, f 8, f 9, .int .u64 (T : Int), .int .u64 (a : Int), .int .u64 (b : Int), f 13, f 14]
theorem and_oneW22 (n : Nat) (hn : n < 18446744073709551616) : bits .and .u64 (n : Int) 1 = ((n % 2 : Nat) : Int) := by
  have := u64_and_nat n 1 hn (by decide)
  rw [show (1 : Int) = ((1 : Nat) : Int) from rfl, this, show (1 : Nat) = 2 ^ 1 - 1 from rfl, Nat.and_two_pow_sub_one_eq_mod]
theorem wb_word22 (a b d : Nat) (hd : d < 128) : wbF a b d = ((if d < 64 then a else b) / 2 ^ (d % 64) % 2 == 1) := by
  unfold wbF
  by_cases h : d < 64
  · rw [if_pos h, if_pos h, Nat.mod_eq_of_lt h, Nat.testBit_eq_decide_div_mod_eq]
    rfl
  · rw [if_neg h, if_neg h, Nat.testBit_eq_decide_div_mod_eq, show d % 64 = d - 64 by omega]
    rfl
theorem cellW22 {w W : World} {p : Addr} {v : Value} (h : w.cell? p = some v) (hW : Below w.heap.size w W) : W.cell? p = some v := by
  rw [hW.cell (World.block_lt_of_cell? _ _ h)]
  exact h
theorem eq_oneW22 (p : Nat) : ((p : Int) == 1) = (p == 1) := by
  rw [Bool.eq_iff_iff]
  simp only [beq_iff_eq]
  omega
set_option maxRecDepth 100000 in
set_option maxHeartbeats 1000000 in
theorem has22_any (f : Nat → Value) (g T a b d : Nat) (D : Int) (hD : D = (d : Int)) (ha : a < 18446744073709551616) (hb : b < 18446744073709551616) (hd : d < 128) (w : World) (hB : BlkAt g 80 (wiC f T a b) w) :
    Calls Tryd.prog 42 #[.pointer (some ⟨g, 10, none⟩), .int .u64 D] w fun e w' => e = .returned (.bool (wbF a b d)) ∧ w' = w := by
  subst hD
  obtain ⟨x, hx⟩ : ∃ x : Nat, x = if d < 64 then a else b := ⟨_, rfl⟩
  obtain ⟨q, hq⟩ : ∃ q : Nat, q = d / 64 := ⟨_, rfl⟩
  obtain ⟨r, hr⟩ : ∃ r : Nat, r = d % 64 := ⟨_, rfl⟩
  have hx64 : x < 18446744073709551616 := by rw [hx]; split <;> assumption
  have hc : w.cell? ⟨g, 11 + q, none⟩ = some (.int .u64 (x : Int)) := by
    rw [hB.cell, hx]
    rcases Nat.lt_or_ge d 64 with h | h
    · rw [if_pos h, show q = 0 by omega]; rfl
    · rw [if_neg (by omega), show q = 1 by omega]; rfl
  have q1 : ((d : Nat) : Int).tdiv 64 = (q : Int) := by rw [Int.tdiv_eq_ediv_of_nonneg (by omega)]; omega
  have q2 : ((d : Nat) : Int) / 64 = (q : Int) := by omega
  have r1 : ((d : Nat) : Int).tmod 64 = (r : Int) := by rw [Int.tmod_eq_emod_of_nonneg (by omega)]; omega
  have r2 : ((d : Nat) : Int) % 64 = (r : Int) := by omega
  have hq2 : (q : Int) < 2 := by omega
  have hqN : q < 2 := by omega
  have hr64 : (r : Int) < 64 := by omega
  have hrN : r < 64 := by omega
  have qw : IntKind.u64.wrap (q : Int) = (q : Int) := by rw [IntKind.wrap_u64]; omega
  have rw' : IntKind.u64.wrap (r : Int) = (r : Int) := by rw [IntKind.wrap_u64]; omega
  have xw : IntKind.u64.wrap (x : Int) = (x : Int) := by rw [IntKind.wrap_u64]; omega
  obtain ⟨y, hy⟩ : ∃ y : Nat, y = x / 2 ^ r := ⟨_, rfl⟩
  have y1 : (x : Int) / 2 ^ r = (y : Int) := by rw [hy]; simp
  have hy64 : y < 18446744073709551616 := by rw [hy]; exact Nat.lt_of_le_of_lt (Nat.div_le_self _ _) hx64
  have yw : IntKind.u64.wrap (y : Int) = (y : Int) := by rw [IntKind.wrap_u64]; omega
  obtain ⟨p, hp⟩ : ∃ p : Nat, p = y % 2 := ⟨_, rfl⟩
  have p1 := and_oneW22 y hy64
  rw [← hp] at p1
  have HP : Hid (wbF a b d = (p == 1)) := (by rw [wb_word22 _ _ _ hd, ← hx, ← hr, ← hy, ← hp] : wbF a b d = (p == 1))
  clear hp hx hy hq hr hB hd ha hb hx64
  go_enter Tryd.func42, Tryd.ntmps42
  go_wp2
  go_ret
  rw [HP.out]
  exact ⟨by rw [← eq_oneW22 p]; rfl, rfl⟩

set_option maxRecDepth 100000 in
set_option maxHeartbeats 1000000 in
theorem move22_any (f : Nat → Value) (g T a b k : Nat) (K : Int) (hK : K = (k : Int)) (hk : k < 18446744073709551616) (ha : a < 18446744073709551616) (hb : b < 18446744073709551616) (w : World) (hB : BlkAt g 80 (wiC f T a b) w) :
    Calls Tryd.prog 44 #[.pointer (some ⟨g, 10, none⟩), .int .u64 K] w fun e w' => e = .returned (.tuple #[]) ∧ BlkAt g 80 (wiC f T (mvN (min k 128) (a, b)).1 (mvN (min k 128) (a, b)).2) w' ∧ Chg (fun i => i = g) w w' := by
  subst hK
  obtain ⟨m, hm⟩ : ∃ m : Nat, m = min k 128 := ⟨_, rfl⟩
  rw [← hm]
  have hm128 : m ≤ 128 := by omega
  have hway : (m = k ∧ (k : Int) ≤ 128) ∨ (m = 128 ∧ ¬ (k : Int) ≤ 128) := by omega
  have HAB : Hid (a < 18446744073709551616 ∧ b < 18446744073709551616) := ⟨ha, hb⟩
  have HB : Hid (BlkAt g 80 (wiC f T a b) w) := hB
  clear hm ha hb hB
  rcases hway with ⟨h1, h2⟩ | ⟨h1, h2⟩
  all_goals
    have H1 : Hid _ := h1
    clear h1
    go_enter Tryd.func44, Tryd.ntmps44
    go_wp2
    go_loopw [6] (fun iv wr => ∃ i : Nat, i ≤ m ∧ iv = .int .u64 (i : Int) ∧ Hid (BlkAt g 80 (wiC f T (mvN i (a, b)).1 (mvN i (a, b)).2) wr ∧ Chg (fun i => i = g) w wr)) (fun iv _ => m - (intOf iv).toNat)
    case atStart => exact ⟨0, by omega, rfl, HB.out, Chg.refl _ _⟩
    case round =>
      obtain ⟨i, hi, rfl, HI⟩ := hrel
      by_cases hlt : i < m
      · have hd : decide ((i : Int) < (k : Int)) = true := decide_eq_true (by have := H1.out; omega)
        have hd2 : decide ((i : Int) < 128) = true := decide_eq_true (by omega)
        have hdN : decide (i < k) = true := decide_eq_true (by have := H1.out; omega)
        obtain ⟨hK, hC⟩ := HI.out
        have hs := mvN_succ i (a, b)
        have hab := mvN_lt i (a, b) HAB.out.1 HAB.out.2
        have HS : Hid _ := hs
        obtain ⟨p, hp⟩ : ∃ p : Nat, p = (mvN i (a, b)).1 := ⟨_, rfl⟩
        obtain ⟨q, hq⟩ : ∃ q : Nat, q = (mvN i (a, b)).2 := ⟨_, rfl⟩
        rw [← hp, ← hq] at hK hab
        have hc1 : wr.cell? ⟨g, 11, none⟩ = some (.int .u64 (p : Int)) := by rw [hK.cell]; rfl
        have hc2 : wr.cell? ⟨g, 12, none⟩ = some (.int .u64 (q : Int)) := by rw [hK.cell]; rfl
        have hf1 := hK.free 11
        have hf2 := hK.free 12
        obtain ⟨hp64, hq64⟩ := hab
        obtain ⟨q2, hq2⟩ : ∃ n : Nat, n = q * 2 % 18446744073709551616 := ⟨_, rfl⟩
        obtain ⟨p1, hp1⟩ : ∃ n : Nat, n = p / 9223372036854775808 := ⟨_, rfl⟩
        obtain ⟨p2, hp2⟩ : ∃ n : Nat, n = p * 2 % 18446744073709551616 := ⟨_, rfl⟩
        obtain ⟨z, hz⟩ : ∃ n : Nat, n = q2 ||| p1 := ⟨_, rfl⟩
        have e1 : IntKind.u64.wrap ((q : Int) * 2) = (q2 : Int) := by rw [IntKind.wrap_u64]; omega
        have e2 : (p : Int) / 9223372036854775808 = (p1 : Int) := by omega
        have e3 : IntKind.u64.wrap ((p : Int) * 2) = (p2 : Int) := by rw [IntKind.wrap_u64]; omega
        have e4 : bits .or .u64 (q2 : Int) (p1 : Int) = (z : Int) := by rw [hz]; exact u64_or_nat q2 p1 (by omega) (by omega)
        have HZ : Hid (mvN (i + 1) (a, b) = (p2, z)) := (by rw [HS.out, ← hp, ← hq, hz, hp2, hq2, hp1]; rfl : mvN (i + 1) (a, b) = (p2, z))
        clear hp hq hs HS hq2 hp1 hp2 hz hp64 hq64
        go_wp2_with fail
        have hB : Below wr.heap.size wr wr.drew := (Below.refl _ _).drew
        refine wpF_begin 17 (w0 := wr) (by kernel_rfl) ?_
        refine fP_ (.inr hB) 0 rfl ⟨_, by intro W; go_simp <;> with_reducible rfl, ?_⟩
        try simp only [Act.put, pA_, pB_, pC_]
        refine fP_ (.inr hB) 1 rfl ⟨_, by intro W; go_simp <;> with_reducible rfl, ?_⟩
        try simp only [Act.put, pA_, pB_, pC_]
        refine fP_ (.inr hB) 2 rfl ⟨_, by intro W; go_simp <;> with_reducible rfl, ?_⟩
        try simp only [Act.put, pA_, pB_, pC_]
        refine fP_ (.inr hB) 3 rfl ⟨_, by intro W; go_simp <;> with_reducible rfl, ?_⟩
        try simp only [Act.put, pA_, pB_, pC_]
        refine fP_ (.inr hB) 4 rfl ⟨_, by intro W; go_simp <;> with_reducible rfl, ?_⟩
        try simp only [Act.put, pA_, pB_, pC_]
        refine fU_ hB 5 rfl ⟨_, by intro W hW; have hcW := cellW22 hc2 hW; go_simp <;> with_reducible rfl, ?_⟩
        try simp only [Act.put, pA_, pB_, pC_]
        refine fP_ (.inr hB) 6 rfl ⟨_, by intro W; go_simp <;> with_reducible rfl, ?_⟩
        try simp only [Act.put, pA_, pB_, pC_]
        refine fP_ (.inr hB) 7 rfl ⟨_, by intro W; go_simp <;> with_reducible rfl, ?_⟩
        try simp only [Act.put, pA_, pB_, pC_]
        refine fP_ (.inr hB) 8 rfl ⟨_, by intro W; go_simp <;> with_reducible rfl, ?_⟩
        try simp only [Act.put, pA_, pB_, pC_]
        refine fP_ (.inr hB) 9 rfl ⟨_, by intro W; go_simp <;> with_reducible rfl, ?_⟩
        try simp only [Act.put, pA_, pB_, pC_]
        refine fP_ (.inr hB) 10 rfl ⟨_, by intro W; go_simp <;> with_reducible rfl, ?_⟩
        try simp only [Act.put, pA_, pB_, pC_]
        refine fU_ hB 11 rfl ⟨_, by intro W hW; have hcW := cellW22 hc1 hW; go_simp <;> with_reducible rfl, ?_⟩
        try simp only [Act.put, pA_, pB_, pC_]
        refine fP_ (.inr hB) 12 rfl ⟨_, by intro W; go_simp <;> with_reducible rfl, ?_⟩
        try simp only [Act.put, pA_, pB_, pC_]
        refine fP_ (.inr hB) 13 rfl ⟨_, by intro W; go_simp <;> with_reducible rfl, ?_⟩
        try simp only [Act.put, pA_, pB_, pC_]
        refine fP_ (.inr hB) 14 rfl ⟨_, by intro W; go_simp <;> with_reducible rfl, ?_⟩
        try simp only [Act.put, pA_, pB_, pC_]
        refine fP_ (.inr hB) 15 rfl ⟨_, by intro W; go_simp <;> with_reducible rfl, ?_⟩
        try simp only [Act.put, pA_, pB_, pC_]
        refine fP_ (.inr hB) 16 rfl ⟨_, by intro W; go_simp <;> with_reducible rfl, ?_⟩
        try simp only [Act.put, pA_, pB_, pC_]
        refine fD_ 17 fun K hK => ?_
        go_simp
        refine hK.out _ _ (.inl rfl) ?_
        clear hK K
        try simp only [Act.put, pA_, pB_, pC_]
        refine wpF_done (by kernel_rfl) ?_
        have hB3 : BlkAt g 80 (wiC f T p z) (wr.setCell ⟨g, 12, none⟩ (.int .u64 (z : Int))).drew := (hK.set 12 _).drew
        have hC3 := (hC.trans (Chg.of_wrote (Wrote.set g 12 wr (.int .u64 (z : Int))))).drew
        generalize (wr.setCell ⟨g, 12, none⟩ (.int .u64 (z : Int))).drew = w3 at hB3 hC3 ⊢
        have hd1 : w3.cell? ⟨g, 11, none⟩ = some (.int .u64 (p : Int)) := by rw [hB3.cell]; rfl
        have hg1 := hB3.free 11
        clear hc1 hc2 hf1 hf2 hB hC HI hK
        go_wp2_with fail
        have hB : Below w3.heap.size w3 w3.drew := (Below.refl _ _).drew
        refine wpF_begin 9 (w0 := w3) (by kernel_rfl) ?_
        refine fP_ (.inr hB) 0 rfl ⟨_, by intro W; go_simp <;> with_reducible rfl, ?_⟩
        try simp only [Act.put, pA_, pB_, pC_]
        refine fP_ (.inr hB) 1 rfl ⟨_, by intro W; go_simp <;> with_reducible rfl, ?_⟩
        try simp only [Act.put, pA_, pB_, pC_]
        refine fP_ (.inr hB) 2 rfl ⟨_, by intro W; go_simp <;> with_reducible rfl, ?_⟩
        try simp only [Act.put, pA_, pB_, pC_]
        refine fP_ (.inr hB) 3 rfl ⟨_, by intro W; go_simp <;> with_reducible rfl, ?_⟩
        try simp only [Act.put, pA_, pB_, pC_]
        refine fU_ hB 4 rfl ⟨_, by intro W hW; have hcW := cellW22 hd1 hW; go_simp <;> with_reducible rfl, ?_⟩
        try simp only [Act.put, pA_, pB_, pC_]
        refine fP_ (.inr hB) 5 rfl ⟨_, by intro W; go_simp <;> with_reducible rfl, ?_⟩
        try simp only [Act.put, pA_, pB_, pC_]
        refine fP_ (.inr hB) 6 rfl ⟨_, by intro W; go_simp <;> with_reducible rfl, ?_⟩
        try simp only [Act.put, pA_, pB_, pC_]
        refine fP_ (.inr hB) 7 rfl ⟨_, by intro W; go_simp <;> with_reducible rfl, ?_⟩
        try simp only [Act.put, pA_, pB_, pC_]
        refine fP_ (.inr hB) 8 rfl ⟨_, by intro W; go_simp <;> with_reducible rfl, ?_⟩
        try simp only [Act.put, pA_, pB_, pC_]
        refine fD_ 9 fun K hK => ?_
        go_simp
        refine hK.out _ _ (.inl rfl) ?_
        clear hK K
        try simp only [Act.put, pA_, pB_, pC_]
        refine wpF_done (by kernel_rfl) ?_
        have hB4 : BlkAt g 80 (wiC f T p2 z) (w3.setCell ⟨g, 11, none⟩ (.int .u64 (p2 : Int))).drew := (hB3.set 11 _).drew
        have hC4 := (hC3.trans (Chg.of_wrote (Wrote.set g 11 w3 (.int .u64 (p2 : Int))))).drew
        have HI4 : Hid (BlkAt g 80 (wiC f T (mvN (i + 1) (a, b)).1 (mvN (i + 1) (a, b)).2) (w3.setCell ⟨g, 11, none⟩ (.int .u64 (p2 : Int))).drew ∧ Chg (fun i => i = g) w (w3.setCell ⟨g, 11, none⟩ (.int .u64 (p2 : Int))).drew) := (by rw [HZ.out]; exact ⟨hB4, hC4⟩ : _ ∧ _)
        clear hB3 hC3 hB4 hC4 hd1 hg1
        generalize (w3.setCell ⟨g, 11, none⟩ (.int .u64 (p2 : Int))).drew = w4 at HI4 ⊢
        have ei : IntKind.u64.wrap ((i : Int) + 1) = ((i + 1 : Nat) : Int) := by rw [IntKind.wrap_u64]; omega
        go_wp2
        go_roundw
        case rel => exact ⟨i + 1, by omega, by go_num, HI4⟩
        case measure => simp [intOf] <;> omega
      · have hie : i = m := by omega
        subst hie
        have h5 : Hid _ := HI.out
        clear HI
        by_cases hk1 : (i : Int) < (k : Int)
        · first
          | (exfalso; have := H1.out; omega)
          | (have h3 : decide ((i : Int) < 128) = false := decide_eq_false (by have := H1.out; omega)
             go_wp2
             go_end0
             exact ⟨rfl, h5.out.1, h5.out.2⟩)
        · first
          | (exfalso; have := H1.out; omega)
          | (have h3 : decide ((i : Int) < (k : Int)) = false := decide_eq_false hk1
             have h3N : decide (i < k) = false := decide_eq_false (by omega)
             go_wp2
             go_end0
             exact ⟨rfl, h5.out.1, h5.out.2⟩)
end Go.Proofs.YtliiofjcghdjoaaDoor

/- Numbers that came, as bits of two words: contracts of package window within a session, second part. -/
namespace Go.Proofs.YtliiofjcghdjoaaDoor
open Go.ChangeShapes Go.WideShapes Go.ChangeAt Go.RowKit
set_option linter.unusedSimpArgs false
set_option linter.unusedVariables false

/-- A window in a session in block g, to which these numbers came. -/
def WnP22 (g : Nat) (f : Nat → Value) (l : List Nat) (w : World) : Prop := ∃ a b, Wn l a b ∧ tpN l < 18446744073709551616 ∧ BlkAt g 80 (wiC f (tpN l) a b) w
theorem WnP22.chg {S : Nat → Prop} {g : Nat} {f : Nat → Value} {l : List Nat} {w w' : World} (h : WnP22 g f l w) (c : Chg S w w') (hS : ¬ S g) : WnP22 g f l w' := by
  obtain ⟨a, b, h1, h2, h3⟩ := h
  exact ⟨a, b, h1, h2, h3.chg c hS⟩
theorem WnP22.kept {g : Nat} {f : Nat → Value} {l : List Nat} {w w' : World} (h : WnP22 g f l w) (c : Below w.heap.size w w') : WnP22 g f l w' := h.chg (Chg.of_below (S := fun _ => False) c) id
theorem WnP22.drew {g : Nat} {f : Nat → Value} {l : List Nat} {w : World} (h : WnP22 g f l w) : WnP22 g f l w.drew := h
theorem WnP22.lt {g : Nat} {f : Nat → Value} {l : List Nat} {w : World} (h : WnP22 g f l w) : g < w.heap.size := by
  obtain ⟨_, _, _, _, h⟩ := h
  exact h.lt

set_option maxRecDepth 100000 in
set_option maxHeartbeats 1000000 in
theorem wcheck22_any (f : Nat → Value) (g : Nat) (l : List Nat) (n : Nat) (N : Int) (hN : N = (n : Int)) (hn : n < 18446744073709551616) (w : World) (hW : WnP22 g f l w) :
    Calls Tryd.prog 32 #[.pointer (some ⟨g, 10, none⟩), .int .u64 N] w fun e w' => e = .returned (.int .i64 (cmE l n)) ∧ w' = w := by
  subst hN
  obtain ⟨a, b, hw, hT, hB⟩ := hW
  have hc0 : w.cell? ⟨g, 10, none⟩ = some (.int .u64 ((tpN l : Nat) : Int)) := by rw [hB.cell]; rfl
  have HB : Hid _ := hB
  have HW : Hid _ := hw
  by_cases h1 : tpN l < n
  · have HC : Hid (cmE l n = 0) := cm_above h1
    generalize tpN l = t at hc0 hT h1
    have d1 : decide ((t : Int) < (n : Int)) = true := decide_eq_true (by omega)
    have dN : decide (t < n) = true := decide_eq_true h1
    clear hB hw
    go_enter Tryd.func32, Tryd.ntmps32
    go_wp2
    go_ret
    exact ⟨retI HC.out.symm, rfl⟩
  · have hck := hw.check (n := n) (by omega)
    obtain ⟨D, hD⟩ : ∃ D : Nat, D = tpN l - n := ⟨_, rfl⟩
    rw [← hD] at hck
    have HCk : Hid _ := hck
    have d1 : decide (((tpN l : Nat) : Int) < (n : Int)) = false := decide_eq_false (by omega)
    have dN : decide (tpN l < n) = false := decide_eq_false h1
    have e1 : IntKind.u64.wrap (((tpN l : Nat) : Int) - (n : Int)) = (D : Int) := by rw [IntKind.wrap_u64]; omega
    by_cases h2 : 128 ≤ D
    · have HC : Hid (cmE l n = 43) := (by rw [hck, if_pos h2] : cmE l n = 43)
      have d2 : decide ((128 : Int) ≤ (D : Int)) = true := decide_eq_true (by omega)
      generalize tpN l = t at hc0 d1 dN e1
      clear hB hw hck hD HCk HB HW h1 hT
      go_enter Tryd.func32, Tryd.ntmps32
      go_wp2
      go_ret
      exact ⟨retI HC.out.symm, rfl⟩
    · have HC : Hid (cmE l n = if wbF a b D = true then 43 else 0) := (by rw [hck, if_neg h2] : cmE l n = if wbF a b D = true then 43 else 0)
      have d2 : decide ((128 : Int) ≤ (D : Int)) = false := decide_eq_false (by omega)
      have hD128 : D < 128 := by omega
      obtain ⟨r, hr⟩ : ∃ r, r = cmE l n := ⟨_, rfl⟩
      rw [← hr] at HC ⊢
      have hhas := has22_any f g (tpN l) a b D _ rfl hw.lo hw.hi hD128 w hB
      have HH : Hid _ := hhas
      generalize tpN l = t at hc0 d1 dN e1
      obtain ⟨q, hq⟩ : ∃ q, q = wbF a b D := ⟨_, rfl⟩
      rw [← hq] at HC HH
      clear hB hw hck hD HCk HB HW h1 hT hr hhas hq h2
      go_enter Tryd.func32, Tryd.ntmps32
      go_wp2_with fail
      refine Calls.mono HH.out ?_
      rintro e w1 ⟨rfl, rfl⟩
      cases q
      · go_wp2
        go_ret
        exact ⟨retI (by rw [HC.out]; rfl), rfl⟩
      · go_wp2
        go_ret
        exact ⟨retI (by rw [HC.out]; rfl), rfl⟩

end Go.Proofs.YtliiofjcghdjoaaDoor

/- A number comes: contracts of package window within a session, third part. -/
namespace Go.Proofs.YtliiofjcghdjoaaDoor
open Go.ChangeShapes Go.WideShapes Go.ChangeAt Go.RowKit
set_option linter.unusedSimpArgs false
set_option linter.unusedVariables false

/-- One bit more in one of two words. -/
theorem wiC_or (f : Nat → Value) (T a b q r d x z : Nat) (hd : d < 128) (hq : q = d / 64) (hr : r = d % 64) (hx : x = if d < 64 then a else b) (hz : z = x ||| 2 ^ r) :
    (wiC f T a b).set (11 + q) (.int .u64 (z : Int)) = wiC f T (a ||| (if d < 64 then 2 ^ d else 0)) (b ||| (if d < 64 then 0 else 2 ^ (d - 64))) := by
  subst hz hx hq hr
  rcases Nat.lt_or_ge d 64 with h | h
  · rw [if_pos h, if_pos h, if_pos h, Nat.or_zero, show d / 64 = 0 by omega, show d % 64 = d by omega]
    rfl
  · rw [if_neg (by omega), if_neg (by omega), if_neg (by omega), Nat.or_zero, show d / 64 = 1 by omega, show d % 64 = d - 64 by omega]
    rfl

set_option maxRecDepth 100000 in
set_option maxHeartbeats 2000000 in
theorem wmark22_any (f : Nat → Value) (g : Nat) (l : List Nat) (n : Nat) (N : Int) (hN : N = (n : Int)) (hn : n < 18446744073709551616) (w : World) (hW : WnP22 g f l w) :
    Calls Tryd.prog 34 #[.pointer (some ⟨g, 10, none⟩), .int .u64 N] w fun e w' => e = .returned (.int .i64 (mkL l n).2) ∧ WnP22 g f (mkL l n).1 w' ∧ Chg (fun i => i = g) w w' := by
  subst hN
  have hC := wcheck22_any f g l n _ rfl hn w hW
  have HW : Hid (WnP22 g f l w) := hW
  have HM : Hid (mkL l n = if cmE l n = 0 then (l ++ [n], 0) else (l, cmE l n)) := rfl
  obtain ⟨G, hG⟩ : ∃ G, G = mkL l n := ⟨_, rfl⟩
  rw [← hG] at HM ⊢
  rcases cmE_ways l n with ⟨h0, -⟩ | ⟨h0, h1, h2⟩
  · rw [h0] at hC HM
    have HC : Hid _ := hC
    have hG2 : G = (l, 43) := HM.out
    subst hG2
    clear hC HM hG h0 hW
    go_enter Tryd.func34, Tryd.ntmps34
    go_wp2_with fail
    refine Calls.mono HC.out ?_
    rintro e w1 ⟨rfl, rfl⟩
    go_wp2
    go_ret
    exact ⟨rfl, HW.out, Chg.refl _ _⟩
  · rw [h0] at hC HM
    have HC : Hid _ := hC
    have hG2 : G = (l ++ [n], 0) := HM.out
    subst hG2
    obtain ⟨a, b, hw, hT, hB⟩ := hW
    have hc0 : w.cell? ⟨g, 10, none⟩ = some (.int .u64 ((tpN l : Nat) : Int)) := by rw [hB.cell]; rfl
    clear hC HM hG h0
    by_cases h3 : tpN l < n
    · obtain ⟨K, hK⟩ : ∃ K : Nat, K = n - tpN l := ⟨_, rfl⟩
      have hup := hw.up (n := n) (k := min K 128) h3 (by omega)
      have hK64 : K < 18446744073709551616 := by omega
      have hmv := move22_any f g (tpN l) a b K _ rfl hK64 hw.lo hw.hi w hB
      have e1 : IntKind.u64.wrap ((n : Int) - ((tpN l : Nat) : Int)) = (K : Int) := by rw [IntKind.wrap_u64]; omega
      have d1 : decide (((tpN l : Nat) : Int) < (n : Int)) = true := decide_eq_true (by omega)
      have dN : decide (tpN l < n) = true := decide_eq_true h3
      have HMv : Hid _ := hmv
      have HU : Hid _ := hup
      have HN : Hid (n < 18446744073709551616) := hn
      obtain ⟨t, ht⟩ : ∃ t, t = tpN l := ⟨_, rfl⟩
      rw [← ht] at hc0 hT d1 dN e1 HMv
      generalize (mvN (min K 128) (a, b)).1 = a2 at HMv HU
      generalize (mvN (min K 128) (a, b)).2 = b2 at HMv HU
      clear hmv hup hB hw hK hK64 ht h1 h2 h3 HW hn
      go_enter Tryd.func34, Tryd.ntmps34
      go_wp2_with fail
      refine Calls.mono HC.out ?_
      rintro e w1 ⟨rfl, rfl⟩
      go_wp2_with fail
      refine Calls.mono HMv.out ?_
      rintro e w2 ⟨rfl, hB2, hC2⟩
      have g0 : w2.cell? ⟨g, 10, none⟩ = some (.int .u64 (t : Int)) := by rw [hB2.cell]; rfl
      have f0 := hB2.free 10
      have hB3 : BlkAt g 80 (wiC f n a2 b2) (w2.setCell ⟨g, 10, none⟩ (.int .u64 (n : Int))) := hB2.set 10 _
      have hC3 := hC2.trans (Chg.of_wrote (Wrote.set g 10 w2 (.int .u64 (n : Int))))
      have g1 : (w2.setCell ⟨g, 10, none⟩ (.int .u64 (n : Int))).cell? ⟨g, 11, none⟩ = some (.int .u64 (a2 : Int)) := by rw [hB3.cell]; rfl
      have k1 := hB3.free 11
      have HB3 : Hid (BlkAt g 80 (wiC f n a2 b2) (w2.setCell ⟨g, 10, none⟩ (.int .u64 (n : Int)))) := hB3
      have w00 : IntKind.u64.wrap 0 = 0 := rfl
      have w11 : IntKind.u64.wrap 1 = 1 := rfl
      have HC3 : Hid _ := hC3
      obtain ⟨z, hz⟩ : ∃ z : Nat, z = a2 ||| 1 := ⟨_, rfl⟩
      have e4 : bits .or .u64 (a2 : Int) 1 = (z : Int) := by
        rw [hz]
        have := HU.out.1.lo
        exact u64_or_nat a2 1 (Nat.lt_of_le_of_lt (by rw [show a2 ||| 1 = a2 ||| 1 from rfl]; exact Nat.left_le_or) this) (by decide)
      have HZ : Hid (z = a2 ||| 1) := hz
      clear hB2 hC2 hB3 hC3 hz
      go_wp2_with fail
      generalize w2.setCell ⟨g, 10, none⟩ (.int .u64 (n : Int)) = w3 at HB3 HC3 g1 k1 ⊢
      have hB : Below w3.heap.size w3 w3.drew := (Below.refl _ _).drew
      refine wpF_begin 14 (w0 := w3) (by kernel_rfl) ?_
      refine fP_ (.inr hB) 0 rfl ⟨_, by intro W; go_simp <;> with_reducible rfl, ?_⟩
      try simp only [Act.put, pA_, pB_, pC_]
      refine fP_ (.inr hB) 1 rfl ⟨_, by intro W; go_simp <;> with_reducible rfl, ?_⟩
      try simp only [Act.put, pA_, pB_, pC_]
      refine fP_ (.inr hB) 2 rfl ⟨_, by intro W; go_simp <;> with_reducible rfl, ?_⟩
      try simp only [Act.put, pA_, pB_, pC_]
      refine fP_ (.inr hB) 3 rfl ⟨_, by intro W; go_simp <;> with_reducible rfl, ?_⟩
      try simp only [Act.put, pA_, pB_, pC_]
      refine fP_ (.inr hB) 4 rfl ⟨_, by intro W; go_simp <;> with_reducible rfl, ?_⟩
      try simp only [Act.put, pA_, pB_, pC_]
      refine fP_ (.inr hB) 5 rfl ⟨_, by intro W; go_simp <;> with_reducible rfl, ?_⟩
      try simp only [Act.put, pA_, pB_, pC_]
      refine fU_ hB 6 rfl ⟨_, by intro W hW; have hcW := cellW22 g1 hW; go_simp <;> with_reducible rfl, ?_⟩
      try simp only [Act.put, pA_, pB_, pC_]
      refine fP_ (.inr hB) 7 rfl ⟨_, by intro W; go_simp <;> with_reducible rfl, ?_⟩
      try simp only [Act.put, pA_, pB_, pC_]
      refine fP_ (.inr hB) 8 rfl ⟨_, by intro W; go_simp <;> with_reducible rfl, ?_⟩
      try simp only [Act.put, pA_, pB_, pC_]
      refine fP_ (.inr hB) 9 rfl ⟨_, by intro W; go_simp <;> with_reducible rfl, ?_⟩
      try simp only [Act.put, pA_, pB_, pC_]
      refine fP_ (.inr hB) 10 rfl ⟨_, by intro W; go_simp <;> with_reducible rfl, ?_⟩
      try simp only [Act.put, pA_, pB_, pC_]
      refine fP_ (.inr hB) 11 rfl ⟨_, by intro W; go_simp <;> with_reducible rfl, ?_⟩
      try simp only [Act.put, pA_, pB_, pC_]
      refine fP_ (.inr hB) 12 rfl ⟨_, by intro W; go_simp <;> with_reducible rfl, ?_⟩
      try simp only [Act.put, pA_, pB_, pC_]
      refine fP_ (.inr hB) 13 rfl ⟨_, by intro W; go_simp <;> with_reducible rfl, ?_⟩
      try simp only [Act.put, pA_, pB_, pC_]
      refine fD_ 14 fun K hK => ?_
      go_simp
      refine hK.out _ _ (.inl rfl) ?_
      clear hK K
      try simp only [Act.put, pA_, pB_, pC_]
      refine wpF_done (by kernel_rfl) ?_
      have hB4 : BlkAt g 80 (wiC f n (a2 ||| 1) b2) (w3.setCell ⟨g, 11, none⟩ (.int .u64 (z : Int))).drew := (by rw [← HZ.out]; exact ((HB3.out.set 11 _).drew) : BlkAt g 80 (wiC f n (a2 ||| 1) b2) (w3.setCell ⟨g, 11, none⟩ (.int .u64 (z : Int))).drew)
      have hC4 := (HC3.out.trans (Chg.of_wrote (Wrote.set g 11 w3 (.int .u64 (z : Int))))).drew
      have HF : Hid (WnP22 g f (l ++ [n]) (w3.setCell ⟨g, 11, none⟩ (.int .u64 (z : Int))).drew) := ⟨_, _, HU.out.1, by rw [HU.out.2]; exact HN.out, by rw [HU.out.2]; exact hB4⟩
      clear hB4
      go_wp2
      go_ret
      exact ⟨rfl, HF.out, hC4⟩
    · have hle : n ≤ tpN l := by omega
      have h128 : tpN l - n < 128 := by omega
      have hmk := hw.mark hle h128
      obtain ⟨d, hd⟩ : ∃ d : Nat, d = tpN l - n := ⟨_, rfl⟩
      have e1 : IntKind.u64.wrap (((tpN l : Nat) : Int) - (n : Int)) = (d : Int) := by rw [IntKind.wrap_u64]; omega
      have d1 : decide (((tpN l : Nat) : Int) < (n : Int)) = false := decide_eq_false (by omega)
      have dN : decide (tpN l < n) = false := decide_eq_false h3
      rw [← hd] at hmk h128
      have hlo := hw.lo
      have hhi := hw.hi
      obtain ⟨t, ht⟩ : ∃ t, t = tpN l := ⟨_, rfl⟩
      have HMk : Hid _ := hmk
      have HTt : Hid (t = tpN l) := ht
      have HTl : Hid (t < 18446744073709551616) := (by rw [ht]; exact hT : t < 18446744073709551616)
      rw [← ht] at hc0 e1 d1 dN hB
      have HB : Hid (BlkAt g 80 (wiC f t a b) w) := hB
      obtain ⟨x, hx⟩ : ∃ x : Nat, x = if d < 64 then a else b := ⟨_, rfl⟩
      obtain ⟨q, hq⟩ : ∃ q : Nat, q = d / 64 := ⟨_, rfl⟩
      obtain ⟨r, hr⟩ : ∃ r : Nat, r = d % 64 := ⟨_, rfl⟩
      obtain ⟨z, hz⟩ : ∃ z : Nat, z = x ||| 2 ^ r := ⟨_, rfl⟩
      have HO : Hid _ := wiC_or f t a b q r d x z h128 hq hr hx hz
      have hx64 : x < 18446744073709551616 := by rw [hx]; split <;> assumption
      have hc : w.cell? ⟨g, 11 + q, none⟩ = some (.int .u64 (x : Int)) := by
        rw [hB.cell, hx]
        rcases Nat.lt_or_ge d 64 with h | h
        · rw [if_pos h, show q = 0 by omega]; rfl
        · rw [if_neg (by omega), show q = 1 by omega]; rfl
      have hf := hB.free (11 + q)
      have q1 : ((d : Nat) : Int).tdiv 64 = (q : Int) := by rw [Int.tdiv_eq_ediv_of_nonneg (by omega)]; omega
      have q2 : ((d : Nat) : Int) / 64 = (q : Int) := by omega
      have r1 : ((d : Nat) : Int).tmod 64 = (r : Int) := by rw [Int.tmod_eq_emod_of_nonneg (by omega)]; omega
      have r2 : ((d : Nat) : Int) % 64 = (r : Int) := by omega
      have hq2 : (q : Int) < 2 := by omega
      have hqN : q < 2 := by omega
      have hr64 : (r : Int) < 64 := by omega
      have hrN : r < 64 := by omega
      have qw : IntKind.u64.wrap (q : Int) = (q : Int) := by rw [IntKind.wrap_u64]; omega
      have rw' : IntKind.u64.wrap (r : Int) = (r : Int) := by rw [IntKind.wrap_u64]; omega
      obtain ⟨y, hy⟩ : ∃ y : Nat, y = 2 ^ r := ⟨_, rfl⟩
      have hy64 : y < 18446744073709551616 := by rw [hy, ← two64]; exact Nat.pow_lt_pow_right (by decide) hrN
      have y1 : IntKind.u64.wrap ((2 : Int) ^ r) = (y : Int) := by
        rw [show ((2 : Int) ^ r) = (y : Int) by rw [hy]; simp, IntKind.wrap_u64]
        omega
      have e4 : bits .or .u64 (x : Int) (y : Int) = (z : Int) := by rw [hz, ← hy]; exact u64_or_nat x y hx64 hy64
      clear hd h128 hlo hhi hmk ht hB hx hq hr hz hx64 hy hy64 hw hT h1 h2 h3 HW hle hn
      go_enter Tryd.func34, Tryd.ntmps34
      go_wp2_with fail
      refine Calls.mono HC.out ?_
      rintro e w1 ⟨rfl, rfl⟩
      go_wp2_with fail
      have hB : Below w1.heap.size w1 w1.drew := (Below.refl _ _).drew
      refine wpF_begin 14 (w0 := w1) (by kernel_rfl) ?_
      refine fP_ (.inr hB) 0 rfl ⟨_, by intro W; go_simp <;> with_reducible rfl, ?_⟩
      try simp only [Act.put, pA_, pB_, pC_]
      refine fP_ (.inr hB) 1 rfl ⟨_, by intro W; go_simp <;> with_reducible rfl, ?_⟩
      try simp only [Act.put, pA_, pB_, pC_]
      refine fP_ (.inr hB) 2 rfl ⟨_, by intro W; go_simp <;> with_reducible rfl, ?_⟩
      try simp only [Act.put, pA_, pB_, pC_]
      refine fP_ (.inr hB) 3 rfl ⟨_, by intro W; go_simp <;> with_reducible rfl, ?_⟩
      try simp only [Act.put, pA_, pB_, pC_]
      refine fP_ (.inr hB) 4 rfl ⟨_, by intro W; go_simp <;> with_reducible rfl, ?_⟩
      try simp only [Act.put, pA_, pB_, pC_]
      refine fP_ (.inr hB) 5 rfl ⟨_, by intro W; go_simp <;> with_reducible rfl, ?_⟩
      try simp only [Act.put, pA_, pB_, pC_]
      refine fU_ hB 6 rfl ⟨_, by intro W hW; have hcW := cellW22 hc hW; go_simp <;> with_reducible rfl, ?_⟩
      try simp only [Act.put, pA_, pB_, pC_]
      refine fP_ (.inr hB) 7 rfl ⟨_, by intro W; go_simp <;> with_reducible rfl, ?_⟩
      try simp only [Act.put, pA_, pB_, pC_]
      refine fP_ (.inr hB) 8 rfl ⟨_, by intro W; go_simp <;> with_reducible rfl, ?_⟩
      try simp only [Act.put, pA_, pB_, pC_]
      refine fP_ (.inr hB) 9 rfl ⟨_, by intro W; go_simp <;> with_reducible rfl, ?_⟩
      try simp only [Act.put, pA_, pB_, pC_]
      refine fP_ (.inr hB) 10 rfl ⟨_, by intro W; go_simp <;> with_reducible rfl, ?_⟩
      try simp only [Act.put, pA_, pB_, pC_]
      refine fP_ (.inr hB) 11 rfl ⟨_, by intro W; go_simp <;> with_reducible rfl, ?_⟩
      try simp only [Act.put, pA_, pB_, pC_]
      refine fP_ (.inr hB) 12 rfl ⟨_, by intro W; go_simp <;> with_reducible rfl, ?_⟩
      try simp only [Act.put, pA_, pB_, pC_]
      refine fP_ (.inr hB) 13 rfl ⟨_, by intro W; go_simp <;> with_reducible rfl, ?_⟩
      try simp only [Act.put, pA_, pB_, pC_]
      refine fD_ 14 fun K hK => ?_
      go_simp
      refine hK.out _ _ (.inl rfl) ?_
      clear hK K
      try simp only [Act.put, pA_, pB_, pC_]
      refine wpF_done (by kernel_rfl) ?_
      have hB4 := (HB.out.set (11 + q) (.int .u64 (z : Int))).drew
      rw [HO.out] at hB4
      have hC4 := ((Chg.refl (fun i => i = g) w1).trans (Chg.of_wrote (Wrote.set g (11 + q) w1 (.int .u64 (z : Int))))).drew
      have HF : Hid (WnP22 g f (l ++ [n]) (w1.setCell ⟨g, 11 + q, none⟩ (.int .u64 (z : Int))).drew) := ⟨_, _, HMk.out.1, by rw [HMk.out.2, ← HTt.out]; exact HTl.out, by rw [HMk.out.2, ← HTt.out]; exact hB4⟩
      clear hB4
      go_wp2
      go_ret
      exact ⟨rfl, HF.out, hC4⟩
end Go.Proofs.YtliiofjcghdjoaaDoor
