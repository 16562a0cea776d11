/- Numbers one behind the other, and one with a step in between: the law's walk. -/
import Derived.Test.YtmgkocoemgpgbaaAw20
import Derived.Test.YtmgkocoemgpgbaaWnMath4
namespace Go.Proofs.Ytmgkocoemgpgbaa
open Go.ChangeShapes Go.WideShapes Go.ChangeAt Go.RowKit
set_option linter.unusedSimpArgs false
set_option linter.unusedVariables false

theorem and48 (x : Nat) (hx : x < 18446744073709551616) : bits .and .u64 (x : Int) 281474976710655 = ((x % 281474976710656 : Nat) : Int) := by
  have := u64_and_nat x 281474976710655 hx (by decide)
  rw [show (281474976710655 : Int) = ((281474976710655 : Nat) : Int) from rfl, this, show (281474976710655 : Nat) = 2 ^ 48 - 1 from rfl, Nat.and_two_pow_sub_one_eq_mod]
theorem and16 (x : Nat) (hx : x < 18446744073709551616) : bits .and .u64 (x : Int) 65535 = ((x % 65536 : Nat) : Int) := by
  have := u64_and_nat x 65535 hx (by decide)
  rw [show (65535 : Int) = ((65535 : Nat) : Int) from rfl, this, show (65535 : Nat) = 2 ^ 16 - 1 from rfl, Nat.and_two_pow_sub_one_eq_mod]

set_option maxRecDepth 100000 in
set_option maxHeartbeats 8000000 in
theorem rows_walk (A B C : Int) (hA : (Lit.int .u64 A).wf = true) (hB : (Lit.int .i64 B).wf = true) (hC : (Lit.int .u64 C).wf = true) (w : World) :
    Calls Try.prog 6 #[.int .u64 A, .int .i64 B, .int .u64 C] w fun e w' => e = .returned (.bool true) ∧ Below w.heap.size w w' := by
  obtain ⟨x, rfl, hx⟩ := one20 hA
  obtain ⟨z, rfl, hz⟩ := one20 hC
  obtain ⟨b, hb⟩ : ∃ b : Nat, b = x % 281474976710656 := ⟨_, rfl⟩
  obtain ⟨s, hs⟩ : ∃ s : Nat, s = z % 65536 := ⟨_, rfl⟩
  have eb := and48 x hx
  have es := and16 z hz
  rw [← hb] at eb
  rw [← hs] at es
  obtain ⟨k, hk, ek⟩ : ∃ k : Nat, k ≤ 63 ∧ bits .and .i64 B 63 = (k : Int) := and_small B 63 (by decide)
  have ek2 : IntKind.u64.wrap (k : Int) = (k : Int) := by rw [IntKind.wrap_u64]; omega
  have hb48 : b < 281474976710656 := by omega
  have hs16 : s < 65536 := by omega
  clear hA hB hC hb hs hx hz
  go_enter Try.func6, Try.ntmps6
  go_wp2_with fail
  refine (awake_any w).mono ?_
  rintro e wa ⟨rfl, ba⟩
  have HB : Hid (Below w.heap.size w wa) := ba
  clear ba
  go_wp2_with (refine wpList_alloc_blk rfl 27 rfl (wnC 0 0 0) (alloc_wn _) ?_)
  intro w1 r1 b1 s1
  have hW := WnB.start HB.out r1 b1
  generalize wa.heap.size = g at hW ⊢
  clear r1 b1 s1 HB
  have HW1 : Hid (WnB w g [] w1) := hW
  clear hW
  go_wp2
  go_loopw [11] (fun iv wr => ∃ i : Nat, i ≤ k + 1 ∧ iv = .int .u64 (i : Int) ∧ Hid (WnB w g (rwN b i) wr)) (fun iv _ => k + 1 - (intOf iv).toNat)
  case atStart => exact ⟨0, by omega, rfl, HW1.out⟩
  case round =>
    obtain ⟨i, hi, rfl, HI⟩ := hrel
    by_cases hlt : i ≤ k
    · have hd : decide ((i : Int) ≤ (k : Int)) = true := decide_eq_true (by omega)
      have hdN : decide (i ≤ k) = true := decide_eq_true hlt
      obtain ⟨n, hn⟩ : ∃ n : Nat, n = b + i := ⟨_, rfl⟩
      have e1 : IntKind.u64.wrap ((b : Int) + (i : Int)) = (n : Int) := by rw [IntKind.wrap_u64]; omega
      have hn64 : n < 18446744073709551616 := by omega
      have HM : Hid (mkL (rwN b i) n = (rwN b (i + 1), 0)) := (by rw [hn]; exact rwN_mk b i : mkL (rwN b i) n = (rwN b (i + 1), 0))
      have HG : Hid (cmE (rwN b (i + 1)) n = 43) := (by rw [hn]; exact rwN_again b i : cmE (rwN b (i + 1)) n = 43)
      clear hn
      go_wp2_with fail
      refine (HI.out.mark n _ rfl hn64).mono ?_
      rintro e w2 ⟨rfl, hW2, -⟩
      rw [HM.out] at hW2 ⊢
      have HW2 : Hid (WnB w g (rwN b (i + 1)) w2) := hW2
      clear hW2
      go_wp2_with fail
      refine (wcheck_any g _ n _ rfl hn64 _ HW2.out.win).mono ?_
      rintro e w3 ⟨rfl, rfl⟩
      rw [HG.out]
      have ei : IntKind.u64.wrap ((i : Int) + 1) = ((i + 1 : Nat) : Int) := by rw [IntKind.wrap_u64]; omega
      go_wp2
      go_roundw
      case rel => exact ⟨i + 1, by omega, by go_num, HW2⟩
      case measure => simp [intOf] <;> omega
    · have hie : i = k + 1 := by omega
      have hd : decide ((i : Int) ≤ (k : Int)) = false := decide_eq_false (by omega)
      have hdN : decide (i ≤ k) = false := decide_eq_false hlt
      have HI2 : Hid (WnB w g (rwN b (k + 1)) wr) := (by rw [← hie]; exact HI.out : WnB w g (rwN b (k + 1)) wr)
      obtain ⟨t1, ht1⟩ : ∃ n : Nat, n = b + k := ⟨_, rfl⟩
      obtain ⟨t2, ht2⟩ : ∃ n : Nat, n = b + k + 1 := ⟨_, rfl⟩
      obtain ⟨t3, ht3⟩ : ∃ n : Nat, n = b + k + 1 + s := ⟨_, rfl⟩
      have e1 : IntKind.u64.wrap ((b : Int) + (k : Int)) = (t1 : Int) := by rw [IntKind.wrap_u64]; omega
      have e2 : IntKind.u64.wrap ((t1 : Int) + 1) = (t2 : Int) := by rw [IntKind.wrap_u64]; omega
      have e3 : IntKind.u64.wrap ((t2 : Int) + (s : Int)) = (t3 : Int) := by rw [IntKind.wrap_u64]; omega
      have hn64 : t3 < 18446744073709551616 := by omega
      have HM : Hid (mkL (rwN b (k + 1)) t3 = (rwN b (k + 1) ++ [t3], 0)) := (by rw [ht3]; exact rwN_step b k s : mkL (rwN b (k + 1)) t3 = (rwN b (k + 1) ++ [t3], 0))
      have HG : Hid (∀ i n, n = t2 + i → i < s → cmE (rwN b (k + 1) ++ [t3]) n = if 128 ≤ s - i then 43 else 0) := (by intro i n hn h; rw [hn, ht2, ht3]; exact rwN_gap b k s i h : ∀ i n, n = t2 + i → i < s → cmE (rwN b (k + 1) ++ [t3]) n = if 128 ≤ s - i then 43 else 0)
      have HF : Hid (cmE (rwN b (k + 1) ++ [t3]) b = 43) := (by rw [ht3]; exact rwN_first b k s : cmE (rwN b (k + 1) ++ [t3]) b = 43)
      have HT : Hid (t3 = t2 + s ∧ t2 < 300000000000000) := (by omega : t3 = t2 + s ∧ t2 < 300000000000000)
      have hb64 : b < 18446744073709551616 := by omega
      generalize rwN b (k + 1) ++ [t3] = L at HM HG HF
      generalize rwN b (k + 1) = L0 at HM HI2
      clear ht1 ht2 ht3 HI hie hlt hi
      go_wp2_with fail
      refine (HI2.out.mark t3 _ rfl hn64).mono ?_
      rintro e w2 ⟨rfl, hW2, -⟩
      rw [HM.out] at hW2 ⊢
      have HW2 : Hid (WnB w g L w2) := hW2
      clear hW2 HI2 HM HW1
      go_wp2
      go_loop [14] (fun iv => ∃ i : Nat, i ≤ s ∧ iv = .int .u64 (i : Int)) (fun iv => s - (intOf iv).toNat)
      case atStart => exact ⟨0, by omega, rfl⟩
      case round =>
        obtain ⟨i, hi, rfl⟩ := hrel
        by_cases hlt : i < s
        · have hd : decide ((i : Int) < (s : Int)) = true := decide_eq_true (by omega)
          have hdN : decide (i < s) = true := decide_eq_true hlt
          obtain ⟨n, hn⟩ : ∃ n : Nat, n = t2 + i := ⟨_, rfl⟩
          obtain ⟨D, hD⟩ : ∃ D : Nat, D = s - i := ⟨_, rfl⟩
          have e5 : IntKind.u64.wrap ((t2 : Int) + (i : Int)) = (n : Int) := by have := HT.out; rw [IntKind.wrap_u64]; omega
          have e6 : IntKind.u64.wrap ((t3 : Int) - (n : Int)) = (D : Int) := by have := HT.out; rw [IntKind.wrap_u64]; omega
          have hg := HG.out i n hn hlt
          rw [← hD] at hg
          have hn2 : n < 18446744073709551616 := by have := HT.out; omega
          obtain ⟨R, hR⟩ : ∃ R, R = cmE L n := ⟨_, rfl⟩
          rw [← hR] at hg
          have HR : Hid (R = cmE L n) := hR
          have hDs : i < 65536 := by omega
          clear hR hn
          have ei : IntKind.u64.wrap ((i : Int) + 1) = ((i + 1 : Nat) : Int) := by rw [IntKind.wrap_u64]; omega
          by_cases h3 : 128 ≤ D
          · have d3 : decide ((128 : Int) ≤ (D : Int)) = true := decide_eq_true (by omega)
            rw [if_pos h3] at hg
            subst hg
            clear hD h3
            go_wp2_with fail
            refine (wcheck_any g L n _ rfl hn2 _ HW2.out.win).mono ?_
            rintro e w3 ⟨rfl, rfl⟩
            rw [← HR.out]
            by_cases h4 : 300 < i
            · have d4 : decide ((300 : Int) < (i : Int)) = true := decide_eq_true (by omega)
              go_wp2_with fail
              refine (wcheck_any g L b _ rfl hb64 _ HW2.out.win).mono ?_
              rintro e w3 ⟨rfl, rfl⟩
              rw [HF.out]
              go_wp2
              go_ret
              exact ⟨rfl, HW2.out.below⟩
            · have d4 : decide ((300 : Int) < (i : Int)) = false := decide_eq_false (by omega)
              go_wp2
              go_round
              case rel => exact ⟨i + 1, by omega, by go_num⟩
              case measure => simp [intOf] <;> omega
          · have d3 : decide ((128 : Int) ≤ (D : Int)) = false := decide_eq_false (by omega)
            rw [if_neg h3] at hg
            subst hg
            clear hD h3
            go_wp2_with fail
            refine (wcheck_any g L n _ rfl hn2 _ HW2.out.win).mono ?_
            rintro e w3 ⟨rfl, rfl⟩
            rw [← HR.out]
            by_cases h4 : 300 < i
            · have d4 : decide ((300 : Int) < (i : Int)) = true := decide_eq_true (by omega)
              go_wp2_with fail
              refine (wcheck_any g L b _ rfl hb64 _ HW2.out.win).mono ?_
              rintro e w3 ⟨rfl, rfl⟩
              rw [HF.out]
              go_wp2
              go_ret
              exact ⟨rfl, HW2.out.below⟩
            · have d4 : decide ((300 : Int) < (i : Int)) = false := decide_eq_false (by omega)
              go_wp2
              go_round
              case rel => exact ⟨i + 1, by omega, by go_num⟩
              case measure => simp [intOf] <;> omega
        · have hd : decide ((i : Int) < (s : Int)) = false := decide_eq_false (by omega)
          have hdN : decide (i < s) = false := decide_eq_false hlt
          go_wp2_with fail
          refine (wcheck_any g L b _ rfl hb64 _ HW2.out.win).mono ?_
          rintro e w3 ⟨rfl, rfl⟩
          rw [HF.out]
          go_wp2
          go_ret
          exact ⟨rfl, HW2.out.below⟩
end Go.Proofs.Ytmgkocoemgpgbaa
