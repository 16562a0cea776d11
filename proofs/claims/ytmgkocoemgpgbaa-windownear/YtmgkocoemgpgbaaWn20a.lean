/- Numbers that came, as bits of two words: contracts of package window, first part. -/
import Derived.Test.YtmgkocoemgpgbaaWnMath3
import Derived.Test.YtmgkocoemgpgbaaRows
import Derived.Deep.QuietTactic
import Derived.BigQuiet
import Derived.WalkSpells
import Derived.RegionTactic
import Derived.BigRegion
import Derived.Test.YtmgkocoemgpgbaaRegS
import Derived.Test.YtmgkocoemgpgbaaMem
import Derived.OwnWalk
namespace Go.Proofs.Ytmgkocoemgpgbaa
open Go.ChangeShapes Go.WideShapes Go.ChangeAt Go.RowKit
set_option linter.unusedSimpArgs false
set_option linter.unusedVariables false

/-- A window's cells: the greatest number, two words. -/
def wnC (T a b : Nat) : List Value := [.int .u64 (T : Int), .int .u64 (a : Int), .int .u64 (b : Int)]
theorem and_oneW (n : Nat) (hn : n < 18446744073709551616) : bits .and .u64 (n : Int) 1 = ((n % 2 : Nat) : Int) := by
  have := u64_and_nat n 1 hn (by decide)
  rw [show (1 : Int) = ((1 : Nat) : Int) from rfl, this, show (1 : Nat) = 2 ^ 1 - 1 from rfl, Nat.and_two_pow_sub_one_eq_mod]
theorem wb_word (a b d : Nat) (hd : d < 128) : wbF a b d = ((if d < 64 then a else b) / 2 ^ (d % 64) % 2 == 1) := by
  unfold wbF
  by_cases h : d < 64
  · rw [if_pos h, if_pos h, Nat.mod_eq_of_lt h, Nat.testBit_eq_decide_div_mod_eq]
    rfl
  · rw [if_neg h, if_neg h, Nat.testBit_eq_decide_div_mod_eq, show d % 64 = d - 64 by omega]
    rfl
theorem cellW20 {w W : World} {p : Addr} {v : Value} (h : w.cell? p = some v) (hW : Below w.heap.size w W) : W.cell? p = some v := by
  rw [hW.cell (World.block_lt_of_cell? _ _ h)]
  exact h
theorem eq_oneW (p : Nat) : ((p : Int) == 1) = (p == 1) := by
  rw [Bool.eq_iff_iff]
  simp only [beq_iff_eq]
  omega
set_option maxRecDepth 100000 in
set_option maxHeartbeats 1000000 in
theorem has20_any (g T a b d : Nat) (D : Int) (hD : D = (d : Int)) (ha : a < 18446744073709551616) (hb : b < 18446744073709551616) (hd : d < 128) (w : World) (hB : BlkAt g 27 (wnC T a b) w) :
    Calls Try.prog 15 #[.pointer (some ⟨g, 0, none⟩), .int .u64 D] w fun e w' => e = .returned (.bool (wbF a b d)) ∧ w' = w := by
  subst hD
  obtain ⟨x, hx⟩ : ∃ x : Nat, x = if d < 64 then a else b := ⟨_, rfl⟩
  obtain ⟨q, hq⟩ : ∃ q : Nat, q = d / 64 := ⟨_, rfl⟩
  obtain ⟨r, hr⟩ : ∃ r : Nat, r = d % 64 := ⟨_, rfl⟩
  have hx64 : x < 18446744073709551616 := by rw [hx]; split <;> assumption
  have hc : w.cell? ⟨g, 1 + q, none⟩ = some (.int .u64 (x : Int)) := by
    rw [hB.cell, hx]
    rcases Nat.lt_or_ge d 64 with h | h
    · rw [if_pos h, show q = 0 by omega]; rfl
    · rw [if_neg (by omega), show q = 1 by omega]; rfl
  have q1 : ((d : Nat) : Int).tdiv 64 = (q : Int) := by rw [Int.tdiv_eq_ediv_of_nonneg (by omega)]; omega
  have q2 : ((d : Nat) : Int) / 64 = (q : Int) := by omega
  have r1 : ((d : Nat) : Int).tmod 64 = (r : Int) := by rw [Int.tmod_eq_emod_of_nonneg (by omega)]; omega
  have r2 : ((d : Nat) : Int) % 64 = (r : Int) := by omega
  have hq2 : (q : Int) < 2 := by omega
  have hqN : q < 2 := by omega
  have hr64 : (r : Int) < 64 := by omega
  have hrN : r < 64 := by omega
  have qw : IntKind.u64.wrap (q : Int) = (q : Int) := by rw [IntKind.wrap_u64]; omega
  have rw' : IntKind.u64.wrap (r : Int) = (r : Int) := by rw [IntKind.wrap_u64]; omega
  have xw : IntKind.u64.wrap (x : Int) = (x : Int) := by rw [IntKind.wrap_u64]; omega
  obtain ⟨y, hy⟩ : ∃ y : Nat, y = x / 2 ^ r := ⟨_, rfl⟩
  have y1 : (x : Int) / 2 ^ r = (y : Int) := by rw [hy]; simp
  have hy64 : y < 18446744073709551616 := by rw [hy]; exact Nat.lt_of_le_of_lt (Nat.div_le_self _ _) hx64
  have yw : IntKind.u64.wrap (y : Int) = (y : Int) := by rw [IntKind.wrap_u64]; omega
  obtain ⟨p, hp⟩ : ∃ p : Nat, p = y % 2 := ⟨_, rfl⟩
  have p1 := and_oneW y hy64
  rw [← hp] at p1
  have HP : Hid (wbF a b d = (p == 1)) := (by rw [wb_word _ _ _ hd, ← hx, ← hr, ← hy, ← hp] : wbF a b d = (p == 1))
  clear hp hx hy hq hr hB hd ha hb hx64
  go_enter Try.func15, Try.ntmps15
  go_wp2
  go_ret
  rw [HP.out]
  exact ⟨by rw [← eq_oneW p]; rfl, rfl⟩

set_option maxRecDepth 100000 in
set_option maxHeartbeats 1000000 in
theorem move20_any (g T a b k : Nat) (K : Int) (hK : K = (k : Int)) (hk : k < 18446744073709551616) (ha : a < 18446744073709551616) (hb : b < 18446744073709551616) (w : World) (hB : BlkAt g 27 (wnC T a b) w) :
    Calls Try.prog 14 #[.pointer (some ⟨g, 0, none⟩), .int .u64 K] w fun e w' => e = .returned (.tuple #[]) ∧ BlkAt g 27 (wnC T (mvN (min k 128) (a, b)).1 (mvN (min k 128) (a, b)).2) w' ∧ Chg (fun i => i = g) w w' := by
  subst hK
  obtain ⟨m, hm⟩ : ∃ m : Nat, m = min k 128 := ⟨_, rfl⟩
  rw [← hm]
  have hm128 : m ≤ 128 := by omega
  have hway : (m = k ∧ (k : Int) ≤ 128) ∨ (m = 128 ∧ ¬ (k : Int) ≤ 128) := by omega
  have HAB : Hid (a < 18446744073709551616 ∧ b < 18446744073709551616) := ⟨ha, hb⟩
  have HB : Hid (BlkAt g 27 (wnC T a b) w) := hB
  clear hm ha hb hB
  rcases hway with ⟨h1, h2⟩ | ⟨h1, h2⟩
  all_goals
    have H1 : Hid _ := h1
    clear h1
    go_enter Try.func14, Try.ntmps14
    go_wp2
    go_loopw [6] (fun iv wr => ∃ i : Nat, i ≤ m ∧ iv = .int .u64 (i : Int) ∧ Hid (BlkAt g 27 (wnC T (mvN i (a, b)).1 (mvN i (a, b)).2) wr ∧ Chg (fun i => i = g) w wr)) (fun iv _ => m - (intOf iv).toNat)
    case atStart => exact ⟨0, by omega, rfl, HB.out, Chg.refl _ _⟩
    case round =>
      obtain ⟨i, hi, rfl, HI⟩ := hrel
      by_cases hlt : i < m
      · have hd : decide ((i : Int) < (k : Int)) = true := decide_eq_true (by have := H1.out; omega)
        have hd2 : decide ((i : Int) < 128) = true := decide_eq_true (by omega)
        have hdN : decide (i < k) = true := decide_eq_true (by have := H1.out; omega)
        obtain ⟨hK, hC⟩ := HI.out
        have hs := mvN_succ i (a, b)
        have hab := mvN_lt i (a, b) HAB.out.1 HAB.out.2
        have HS : Hid _ := hs
        obtain ⟨p, hp⟩ : ∃ p : Nat, p = (mvN i (a, b)).1 := ⟨_, rfl⟩
        obtain ⟨q, hq⟩ : ∃ q : Nat, q = (mvN i (a, b)).2 := ⟨_, rfl⟩
        rw [← hp, ← hq] at hK hab
        have hc1 : wr.cell? ⟨g, 1, none⟩ = some (.int .u64 (p : Int)) := by rw [hK.cell]; rfl
        have hc2 : wr.cell? ⟨g, 2, none⟩ = some (.int .u64 (q : Int)) := by rw [hK.cell]; rfl
        have hf1 := hK.free 1
        have hf2 := hK.free 2
        obtain ⟨hp64, hq64⟩ := hab
        obtain ⟨q2, hq2⟩ : ∃ n : Nat, n = q * 2 % 18446744073709551616 := ⟨_, rfl⟩
        obtain ⟨p1, hp1⟩ : ∃ n : Nat, n = p / 9223372036854775808 := ⟨_, rfl⟩
        obtain ⟨p2, hp2⟩ : ∃ n : Nat, n = p * 2 % 18446744073709551616 := ⟨_, rfl⟩
        obtain ⟨z, hz⟩ : ∃ n : Nat, n = q2 ||| p1 := ⟨_, rfl⟩
        have e1 : IntKind.u64.wrap ((q : Int) * 2) = (q2 : Int) := by rw [IntKind.wrap_u64]; omega
        have e2 : (p : Int) / 9223372036854775808 = (p1 : Int) := by omega
        have e3 : IntKind.u64.wrap ((p : Int) * 2) = (p2 : Int) := by rw [IntKind.wrap_u64]; omega
        have e4 : bits .or .u64 (q2 : Int) (p1 : Int) = (z : Int) := by rw [hz]; exact u64_or_nat q2 p1 (by omega) (by omega)
        have HZ : Hid (mvN (i + 1) (a, b) = (p2, z)) := (by rw [HS.out, ← hp, ← hq, hz, hp2, hq2, hp1]; rfl : mvN (i + 1) (a, b) = (p2, z))
        clear hp hq hs HS hq2 hp1 hp2 hz hp64 hq64
        go_wp2_with fail
        have hB : Below wr.heap.size wr wr.drew := (Below.refl _ _).drew
        refine wpF_begin 17 (w0 := wr) (by kernel_rfl) ?_
        refine fP_ (.inr hB) 0 rfl ⟨_, by intro W; go_simp <;> with_reducible rfl, ?_⟩
        try simp only [Act.put, pA_, pB_, pC_]
        refine fP_ (.inr hB) 1 rfl ⟨_, by intro W; go_simp <;> with_reducible rfl, ?_⟩
        try simp only [Act.put, pA_, pB_, pC_]
        refine fP_ (.inr hB) 2 rfl ⟨_, by intro W; go_simp <;> with_reducible rfl, ?_⟩
        try simp only [Act.put, pA_, pB_, pC_]
        refine fP_ (.inr hB) 3 rfl ⟨_, by intro W; go_simp <;> with_reducible rfl, ?_⟩
        try simp only [Act.put, pA_, pB_, pC_]
        refine fP_ (.inr hB) 4 rfl ⟨_, by intro W; go_simp <;> with_reducible rfl, ?_⟩
        try simp only [Act.put, pA_, pB_, pC_]
        refine fU_ hB 5 rfl ⟨_, by intro W hW; have hcW := cellW20 hc2 hW; go_simp <;> with_reducible rfl, ?_⟩
        try simp only [Act.put, pA_, pB_, pC_]
        refine fP_ (.inr hB) 6 rfl ⟨_, by intro W; go_simp <;> with_reducible rfl, ?_⟩
        try simp only [Act.put, pA_, pB_, pC_]
        refine fP_ (.inr hB) 7 rfl ⟨_, by intro W; go_simp <;> with_reducible rfl, ?_⟩
        try simp only [Act.put, pA_, pB_, pC_]
        refine fP_ (.inr hB) 8 rfl ⟨_, by intro W; go_simp <;> with_reducible rfl, ?_⟩
        try simp only [Act.put, pA_, pB_, pC_]
        refine fP_ (.inr hB) 9 rfl ⟨_, by intro W; go_simp <;> with_reducible rfl, ?_⟩
        try simp only [Act.put, pA_, pB_, pC_]
        refine fP_ (.inr hB) 10 rfl ⟨_, by intro W; go_simp <;> with_reducible rfl, ?_⟩
        try simp only [Act.put, pA_, pB_, pC_]
        refine fU_ hB 11 rfl ⟨_, by intro W hW; have hcW := cellW20 hc1 hW; go_simp <;> with_reducible rfl, ?_⟩
        try simp only [Act.put, pA_, pB_, pC_]
        refine fP_ (.inr hB) 12 rfl ⟨_, by intro W; go_simp <;> with_reducible rfl, ?_⟩
        try simp only [Act.put, pA_, pB_, pC_]
        refine fP_ (.inr hB) 13 rfl ⟨_, by intro W; go_simp <;> with_reducible rfl, ?_⟩
        try simp only [Act.put, pA_, pB_, pC_]
        refine fP_ (.inr hB) 14 rfl ⟨_, by intro W; go_simp <;> with_reducible rfl, ?_⟩
        try simp only [Act.put, pA_, pB_, pC_]
        refine fP_ (.inr hB) 15 rfl ⟨_, by intro W; go_simp <;> with_reducible rfl, ?_⟩
        try simp only [Act.put, pA_, pB_, pC_]
        refine fP_ (.inr hB) 16 rfl ⟨_, by intro W; go_simp <;> with_reducible rfl, ?_⟩
        try simp only [Act.put, pA_, pB_, pC_]
        refine fD_ 17 fun K hK => ?_
        go_simp
        refine hK.out _ _ (.inl rfl) ?_
        clear hK K
        try simp only [Act.put, pA_, pB_, pC_]
        refine wpF_done (by kernel_rfl) ?_
        have hB3 : BlkAt g 27 (wnC T p z) (wr.setCell ⟨g, 2, none⟩ (.int .u64 (z : Int))).drew := (hK.set 2 _).drew
        have hC3 := (hC.trans (Chg.of_wrote (Wrote.set g 2 wr (.int .u64 (z : Int))))).drew
        generalize (wr.setCell ⟨g, 2, none⟩ (.int .u64 (z : Int))).drew = w3 at hB3 hC3 ⊢
        have hd1 : w3.cell? ⟨g, 1, none⟩ = some (.int .u64 (p : Int)) := by rw [hB3.cell]; rfl
        have hg1 := hB3.free 1
        clear hc1 hc2 hf1 hf2 hB hC HI hK
        go_wp2_with fail
        have hB : Below w3.heap.size w3 w3.drew := (Below.refl _ _).drew
        refine wpF_begin 9 (w0 := w3) (by kernel_rfl) ?_
        refine fP_ (.inr hB) 0 rfl ⟨_, by intro W; go_simp <;> with_reducible rfl, ?_⟩
        try simp only [Act.put, pA_, pB_, pC_]
        refine fP_ (.inr hB) 1 rfl ⟨_, by intro W; go_simp <;> with_reducible rfl, ?_⟩
        try simp only [Act.put, pA_, pB_, pC_]
        refine fP_ (.inr hB) 2 rfl ⟨_, by intro W; go_simp <;> with_reducible rfl, ?_⟩
        try simp only [Act.put, pA_, pB_, pC_]
        refine fP_ (.inr hB) 3 rfl ⟨_, by intro W; go_simp <;> with_reducible rfl, ?_⟩
        try simp only [Act.put, pA_, pB_, pC_]
        refine fU_ hB 4 rfl ⟨_, by intro W hW; have hcW := cellW20 hd1 hW; go_simp <;> with_reducible rfl, ?_⟩
        try simp only [Act.put, pA_, pB_, pC_]
        refine fP_ (.inr hB) 5 rfl ⟨_, by intro W; go_simp <;> with_reducible rfl, ?_⟩
        try simp only [Act.put, pA_, pB_, pC_]
        refine fP_ (.inr hB) 6 rfl ⟨_, by intro W; go_simp <;> with_reducible rfl, ?_⟩
        try simp only [Act.put, pA_, pB_, pC_]
        refine fP_ (.inr hB) 7 rfl ⟨_, by intro W; go_simp <;> with_reducible rfl, ?_⟩
        try simp only [Act.put, pA_, pB_, pC_]
        refine fP_ (.inr hB) 8 rfl ⟨_, by intro W; go_simp <;> with_reducible rfl, ?_⟩
        try simp only [Act.put, pA_, pB_, pC_]
        refine fD_ 9 fun K hK => ?_
        go_simp
        refine hK.out _ _ (.inl rfl) ?_
        clear hK K
        try simp only [Act.put, pA_, pB_, pC_]
        refine wpF_done (by kernel_rfl) ?_
        have hB4 : BlkAt g 27 (wnC T p2 z) (w3.setCell ⟨g, 1, none⟩ (.int .u64 (p2 : Int))).drew := (hB3.set 1 _).drew
        have hC4 := (hC3.trans (Chg.of_wrote (Wrote.set g 1 w3 (.int .u64 (p2 : Int))))).drew
        have HI4 : Hid (BlkAt g 27 (wnC T (mvN (i + 1) (a, b)).1 (mvN (i + 1) (a, b)).2) (w3.setCell ⟨g, 1, none⟩ (.int .u64 (p2 : Int))).drew ∧ Chg (fun i => i = g) w (w3.setCell ⟨g, 1, none⟩ (.int .u64 (p2 : Int))).drew) := (by rw [HZ.out]; exact ⟨hB4, hC4⟩ : _ ∧ _)
        clear hB3 hC3 hB4 hC4 hd1 hg1
        generalize (w3.setCell ⟨g, 1, none⟩ (.int .u64 (p2 : Int))).drew = w4 at HI4 ⊢
        have ei : IntKind.u64.wrap ((i : Int) + 1) = ((i + 1 : Nat) : Int) := by rw [IntKind.wrap_u64]; omega
        go_wp2
        go_roundw
        case rel => exact ⟨i + 1, by omega, by go_num, HI4⟩
        case measure => simp [intOf] <;> omega
      · have hie : i = m := by omega
        subst hie
        have h5 : Hid _ := HI.out
        clear HI
        by_cases hk1 : (i : Int) < (k : Int)
        · first
          | (exfalso; have := H1.out; omega)
          | (have h3 : decide ((i : Int) < 128) = false := decide_eq_false (by have := H1.out; omega)
             go_wp2
             go_end0
             exact ⟨rfl, h5.out.1, h5.out.2⟩)
        · first
          | (exfalso; have := H1.out; omega)
          | (have h3 : decide ((i : Int) < (k : Int)) = false := decide_eq_false hk1
             have h3N : decide (i < k) = false := decide_eq_false (by omega)
             go_wp2
             go_end0
             exact ⟨rfl, h5.out.1, h5.out.2⟩)
end Go.Proofs.Ytmgkocoemgpgbaa
