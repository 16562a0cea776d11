/- A number comes: contracts of package window, third part. -/
import Derived.Test.YtmgkocoemgpgbaaWn20b
namespace Go.Proofs.Ytmgkocoemgpgbaa
open Go.ChangeShapes Go.WideShapes Go.ChangeAt Go.RowKit
set_option linter.unusedSimpArgs false
set_option linter.unusedVariables false

/-- One bit more in one of two words. -/
theorem wnC_or (T a b q r d x z : Nat) (hd : d < 128) (hq : q = d / 64) (hr : r = d % 64) (hx : x = if d < 64 then a else b) (hz : z = x ||| 2 ^ r) :
    (wnC T a b).set (1 + q) (.int .u64 (z : Int)) = wnC T (a ||| (if d < 64 then 2 ^ d else 0)) (b ||| (if d < 64 then 0 else 2 ^ (d - 64))) := by
  subst hz hx hq hr
  rcases Nat.lt_or_ge d 64 with h | h
  · rw [if_pos h, if_pos h, if_pos h, Nat.or_zero, show d / 64 = 0 by omega, show d % 64 = d by omega]
    rfl
  · rw [if_neg (by omega), if_neg (by omega), if_neg (by omega), Nat.or_zero, show d / 64 = 1 by omega, show d % 64 = d - 64 by omega]
    rfl

set_option maxRecDepth 100000 in
set_option maxHeartbeats 2000000 in
theorem wmark_any (g : Nat) (l : List Nat) (n : Nat) (N : Int) (hN : N = (n : Int)) (hn : n < 18446744073709551616) (w : World) (hW : WnP g l w) :
    Calls Try.prog 8 #[.pointer (some ⟨g, 0, none⟩), .int .u64 N] w fun e w' => e = .returned (.int .i64 (mkL l n).2) ∧ WnP g (mkL l n).1 w' ∧ Chg (fun i => i = g) w w' := by
  subst hN
  have hC := wcheck_any g l n _ rfl hn w hW
  have HW : Hid (WnP g l w) := hW
  have HM : Hid (mkL l n = if cmE l n = 0 then (l ++ [n], 0) else (l, cmE l n)) := rfl
  obtain ⟨G, hG⟩ : ∃ G, G = mkL l n := ⟨_, rfl⟩
  rw [← hG] at HM ⊢
  rcases cmE_ways l n with ⟨h0, -⟩ | ⟨h0, h1, h2⟩
  · rw [h0] at hC HM
    have HC : Hid _ := hC
    have hG2 : G = (l, 43) := HM.out
    subst hG2
    clear hC HM hG h0 hW
    go_enter Try.func8, Try.ntmps8
    go_wp2_with fail
    refine Calls.mono HC.out ?_
    rintro e w1 ⟨rfl, rfl⟩
    go_wp2
    go_ret
    exact ⟨rfl, HW.out, Chg.refl _ _⟩
  · rw [h0] at hC HM
    have HC : Hid _ := hC
    have hG2 : G = (l ++ [n], 0) := HM.out
    subst hG2
    obtain ⟨a, b, hw, hT, hB⟩ := hW
    have hc0 : w.cell? ⟨g, 0, none⟩ = some (.int .u64 ((tpN l : Nat) : Int)) := by rw [hB.cell]; rfl
    clear hC HM hG h0
    by_cases h3 : tpN l < n
    · obtain ⟨K, hK⟩ : ∃ K : Nat, K = n - tpN l := ⟨_, rfl⟩
      have hup := hw.up (n := n) (k := min K 128) h3 (by omega)
      have hK64 : K < 18446744073709551616 := by omega
      have hmv := move20_any g (tpN l) a b K _ rfl hK64 hw.lo hw.hi w hB
      have e1 : IntKind.u64.wrap ((n : Int) - ((tpN l : Nat) : Int)) = (K : Int) := by rw [IntKind.wrap_u64]; omega
      have d1 : decide (((tpN l : Nat) : Int) < (n : Int)) = true := decide_eq_true (by omega)
      have dN : decide (tpN l < n) = true := decide_eq_true h3
      have HMv : Hid _ := hmv
      have HU : Hid _ := hup
      have HN : Hid (n < 18446744073709551616) := hn
      obtain ⟨t, ht⟩ : ∃ t, t = tpN l := ⟨_, rfl⟩
      rw [← ht] at hc0 hT d1 dN e1 HMv
      generalize (mvN (min K 128) (a, b)).1 = a2 at HMv HU
      generalize (mvN (min K 128) (a, b)).2 = b2 at HMv HU
      clear hmv hup hB hw hK hK64 ht h1 h2 h3 HW hn
      go_enter Try.func8, Try.ntmps8
      go_wp2_with fail
      refine Calls.mono HC.out ?_
      rintro e w1 ⟨rfl, rfl⟩
      go_wp2_with fail
      refine Calls.mono HMv.out ?_
      rintro e w2 ⟨rfl, hB2, hC2⟩
      have g0 : w2.cell? ⟨g, 0, none⟩ = some (.int .u64 (t : Int)) := by rw [hB2.cell]; rfl
      have f0 := hB2.free 0
      have hB3 : BlkAt g 27 (wnC n a2 b2) (w2.setCell ⟨g, 0, none⟩ (.int .u64 (n : Int))) := hB2.set 0 _
      have hC3 := hC2.trans (Chg.of_wrote (Wrote.set g 0 w2 (.int .u64 (n : Int))))
      have g1 : (w2.setCell ⟨g, 0, none⟩ (.int .u64 (n : Int))).cell? ⟨g, 1, none⟩ = some (.int .u64 (a2 : Int)) := by rw [hB3.cell]; rfl
      have k1 := hB3.free 1
      have HB3 : Hid (BlkAt g 27 (wnC n a2 b2) (w2.setCell ⟨g, 0, none⟩ (.int .u64 (n : Int)))) := hB3
      have w00 : IntKind.u64.wrap 0 = 0 := rfl
      have w11 : IntKind.u64.wrap 1 = 1 := rfl
      have HC3 : Hid _ := hC3
      obtain ⟨z, hz⟩ : ∃ z : Nat, z = a2 ||| 1 := ⟨_, rfl⟩
      have e4 : bits .or .u64 (a2 : Int) 1 = (z : Int) := by
        rw [hz]
        have := HU.out.1.lo
        exact u64_or_nat a2 1 (Nat.lt_of_le_of_lt (by rw [show a2 ||| 1 = a2 ||| 1 from rfl]; exact Nat.left_le_or) this) (by decide)
      have HZ : Hid (z = a2 ||| 1) := hz
      clear hB2 hC2 hB3 hC3 hz
      go_wp2_with fail
      generalize w2.setCell ⟨g, 0, none⟩ (.int .u64 (n : Int)) = w3 at HB3 HC3 g1 k1 ⊢
      have hB : Below w3.heap.size w3 w3.drew := (Below.refl _ _).drew
      refine wpF_begin 14 (w0 := w3) (by kernel_rfl) ?_
      refine fP_ (.inr hB) 0 rfl ⟨_, by intro W; go_simp <;> with_reducible rfl, ?_⟩
      try simp only [Act.put, pA_, pB_, pC_]
      refine fP_ (.inr hB) 1 rfl ⟨_, by intro W; go_simp <;> with_reducible rfl, ?_⟩
      try simp only [Act.put, pA_, pB_, pC_]
      refine fP_ (.inr hB) 2 rfl ⟨_, by intro W; go_simp <;> with_reducible rfl, ?_⟩
      try simp only [Act.put, pA_, pB_, pC_]
      refine fP_ (.inr hB) 3 rfl ⟨_, by intro W; go_simp <;> with_reducible rfl, ?_⟩
      try simp only [Act.put, pA_, pB_, pC_]
      refine fP_ (.inr hB) 4 rfl ⟨_, by intro W; go_simp <;> with_reducible rfl, ?_⟩
      try simp only [Act.put, pA_, pB_, pC_]
      refine fP_ (.inr hB) 5 rfl ⟨_, by intro W; go_simp <;> with_reducible rfl, ?_⟩
      try simp only [Act.put, pA_, pB_, pC_]
      refine fU_ hB 6 rfl ⟨_, by intro W hW; have hcW := cellW20 g1 hW; go_simp <;> with_reducible rfl, ?_⟩
      try simp only [Act.put, pA_, pB_, pC_]
      refine fP_ (.inr hB) 7 rfl ⟨_, by intro W; go_simp <;> with_reducible rfl, ?_⟩
      try simp only [Act.put, pA_, pB_, pC_]
      refine fP_ (.inr hB) 8 rfl ⟨_, by intro W; go_simp <;> with_reducible rfl, ?_⟩
      try simp only [Act.put, pA_, pB_, pC_]
      refine fP_ (.inr hB) 9 rfl ⟨_, by intro W; go_simp <;> with_reducible rfl, ?_⟩
      try simp only [Act.put, pA_, pB_, pC_]
      refine fP_ (.inr hB) 10 rfl ⟨_, by intro W; go_simp <;> with_reducible rfl, ?_⟩
      try simp only [Act.put, pA_, pB_, pC_]
      refine fP_ (.inr hB) 11 rfl ⟨_, by intro W; go_simp <;> with_reducible rfl, ?_⟩
      try simp only [Act.put, pA_, pB_, pC_]
      refine fP_ (.inr hB) 12 rfl ⟨_, by intro W; go_simp <;> with_reducible rfl, ?_⟩
      try simp only [Act.put, pA_, pB_, pC_]
      refine fP_ (.inr hB) 13 rfl ⟨_, by intro W; go_simp <;> with_reducible rfl, ?_⟩
      try simp only [Act.put, pA_, pB_, pC_]
      refine fD_ 14 fun K hK => ?_
      go_simp
      refine hK.out _ _ (.inl rfl) ?_
      clear hK K
      try simp only [Act.put, pA_, pB_, pC_]
      refine wpF_done (by kernel_rfl) ?_
      have hB4 : BlkAt g 27 (wnC n (a2 ||| 1) b2) (w3.setCell ⟨g, 1, none⟩ (.int .u64 (z : Int))).drew := (by rw [← HZ.out]; exact ((HB3.out.set 1 _).drew) : BlkAt g 27 (wnC n (a2 ||| 1) b2) (w3.setCell ⟨g, 1, none⟩ (.int .u64 (z : Int))).drew)
      have hC4 := (HC3.out.trans (Chg.of_wrote (Wrote.set g 1 w3 (.int .u64 (z : Int))))).drew
      have HF : Hid (WnP g (l ++ [n]) (w3.setCell ⟨g, 1, none⟩ (.int .u64 (z : Int))).drew) := ⟨_, _, HU.out.1, by rw [HU.out.2]; exact HN.out, by rw [HU.out.2]; exact hB4⟩
      clear hB4
      go_wp2
      go_ret
      exact ⟨rfl, HF.out, hC4⟩
    · have hle : n ≤ tpN l := by omega
      have h128 : tpN l - n < 128 := by omega
      have hmk := hw.mark hle h128
      obtain ⟨d, hd⟩ : ∃ d : Nat, d = tpN l - n := ⟨_, rfl⟩
      have e1 : IntKind.u64.wrap (((tpN l : Nat) : Int) - (n : Int)) = (d : Int) := by rw [IntKind.wrap_u64]; omega
      have d1 : decide (((tpN l : Nat) : Int) < (n : Int)) = false := decide_eq_false (by omega)
      have dN : decide (tpN l < n) = false := decide_eq_false h3
      rw [← hd] at hmk h128
      have hlo := hw.lo
      have hhi := hw.hi
      obtain ⟨t, ht⟩ : ∃ t, t = tpN l := ⟨_, rfl⟩
      have HMk : Hid _ := hmk
      have HTt : Hid (t = tpN l) := ht
      have HTl : Hid (t < 18446744073709551616) := (by rw [ht]; exact hT : t < 18446744073709551616)
      rw [← ht] at hc0 e1 d1 dN hB
      have HB : Hid (BlkAt g 27 (wnC t a b) w) := hB
      obtain ⟨x, hx⟩ : ∃ x : Nat, x = if d < 64 then a else b := ⟨_, rfl⟩
      obtain ⟨q, hq⟩ : ∃ q : Nat, q = d / 64 := ⟨_, rfl⟩
      obtain ⟨r, hr⟩ : ∃ r : Nat, r = d % 64 := ⟨_, rfl⟩
      obtain ⟨z, hz⟩ : ∃ z : Nat, z = x ||| 2 ^ r := ⟨_, rfl⟩
      have HO : Hid _ := wnC_or t a b q r d x z h128 hq hr hx hz
      have hx64 : x < 18446744073709551616 := by rw [hx]; split <;> assumption
      have hc : w.cell? ⟨g, 1 + q, none⟩ = some (.int .u64 (x : Int)) := by
        rw [hB.cell, hx]
        rcases Nat.lt_or_ge d 64 with h | h
        · rw [if_pos h, show q = 0 by omega]; rfl
        · rw [if_neg (by omega), show q = 1 by omega]; rfl
      have hf := hB.free (1 + q)
      have q1 : ((d : Nat) : Int).tdiv 64 = (q : Int) := by rw [Int.tdiv_eq_ediv_of_nonneg (by omega)]; omega
      have q2 : ((d : Nat) : Int) / 64 = (q : Int) := by omega
      have r1 : ((d : Nat) : Int).tmod 64 = (r : Int) := by rw [Int.tmod_eq_emod_of_nonneg (by omega)]; omega
      have r2 : ((d : Nat) : Int) % 64 = (r : Int) := by omega
      have hq2 : (q : Int) < 2 := by omega
      have hqN : q < 2 := by omega
      have hr64 : (r : Int) < 64 := by omega
      have hrN : r < 64 := by omega
      have qw : IntKind.u64.wrap (q : Int) = (q : Int) := by rw [IntKind.wrap_u64]; omega
      have rw' : IntKind.u64.wrap (r : Int) = (r : Int) := by rw [IntKind.wrap_u64]; omega
      obtain ⟨y, hy⟩ : ∃ y : Nat, y = 2 ^ r := ⟨_, rfl⟩
      have hy64 : y < 18446744073709551616 := by rw [hy, ← two64]; exact Nat.pow_lt_pow_right (by decide) hrN
      have y1 : IntKind.u64.wrap ((2 : Int) ^ r) = (y : Int) := by
        rw [show ((2 : Int) ^ r) = (y : Int) by rw [hy]; simp, IntKind.wrap_u64]
        omega
      have e4 : bits .or .u64 (x : Int) (y : Int) = (z : Int) := by rw [hz, ← hy]; exact u64_or_nat x y hx64 hy64
      clear hd h128 hlo hhi hmk ht hB hx hq hr hz hx64 hy hy64 hw hT h1 h2 h3 HW hle hn
      go_enter Try.func8, Try.ntmps8
      go_wp2_with fail
      refine Calls.mono HC.out ?_
      rintro e w1 ⟨rfl, rfl⟩
      go_wp2_with fail
      have hB : Below w1.heap.size w1 w1.drew := (Below.refl _ _).drew
      refine wpF_begin 14 (w0 := w1) (by kernel_rfl) ?_
      refine fP_ (.inr hB) 0 rfl ⟨_, by intro W; go_simp <;> with_reducible rfl, ?_⟩
      try simp only [Act.put, pA_, pB_, pC_]
      refine fP_ (.inr hB) 1 rfl ⟨_, by intro W; go_simp <;> with_reducible rfl, ?_⟩
      try simp only [Act.put, pA_, pB_, pC_]
      refine fP_ (.inr hB) 2 rfl ⟨_, by intro W; go_simp <;> with_reducible rfl, ?_⟩
      try simp only [Act.put, pA_, pB_, pC_]
      refine fP_ (.inr hB) 3 rfl ⟨_, by intro W; go_simp <;> with_reducible rfl, ?_⟩
      try simp only [Act.put, pA_, pB_, pC_]
      refine fP_ (.inr hB) 4 rfl ⟨_, by intro W; go_simp <;> with_reducible rfl, ?_⟩
      try simp only [Act.put, pA_, pB_, pC_]
      refine fP_ (.inr hB) 5 rfl ⟨_, by intro W; go_simp <;> with_reducible rfl, ?_⟩
      try simp only [Act.put, pA_, pB_, pC_]
      refine fU_ hB 6 rfl ⟨_, by intro W hW; have hcW := cellW20 hc hW; go_simp <;> with_reducible rfl, ?_⟩
      try simp only [Act.put, pA_, pB_, pC_]
      refine fP_ (.inr hB) 7 rfl ⟨_, by intro W; go_simp <;> with_reducible rfl, ?_⟩
      try simp only [Act.put, pA_, pB_, pC_]
      refine fP_ (.inr hB) 8 rfl ⟨_, by intro W; go_simp <;> with_reducible rfl, ?_⟩
      try simp only [Act.put, pA_, pB_, pC_]
      refine fP_ (.inr hB) 9 rfl ⟨_, by intro W; go_simp <;> with_reducible rfl, ?_⟩
      try simp only [Act.put, pA_, pB_, pC_]
      refine fP_ (.inr hB) 10 rfl ⟨_, by intro W; go_simp <;> with_reducible rfl, ?_⟩
      try simp only [Act.put, pA_, pB_, pC_]
      refine fP_ (.inr hB) 11 rfl ⟨_, by intro W; go_simp <;> with_reducible rfl, ?_⟩
      try simp only [Act.put, pA_, pB_, pC_]
      refine fP_ (.inr hB) 12 rfl ⟨_, by intro W; go_simp <;> with_reducible rfl, ?_⟩
      try simp only [Act.put, pA_, pB_, pC_]
      refine fP_ (.inr hB) 13 rfl ⟨_, by intro W; go_simp <;> with_reducible rfl, ?_⟩
      try simp only [Act.put, pA_, pB_, pC_]
      refine fD_ 14 fun K hK => ?_
      go_simp
      refine hK.out _ _ (.inl rfl) ?_
      clear hK K
      try simp only [Act.put, pA_, pB_, pC_]
      refine wpF_done (by kernel_rfl) ?_
      have hB4 := (HB.out.set (1 + q) (.int .u64 (z : Int))).drew
      rw [HO.out] at hB4
      have hC4 := ((Chg.refl (fun i => i = g) w1).trans (Chg.of_wrote (Wrote.set g (1 + q) w1 (.int .u64 (z : Int))))).drew
      have HF : Hid (WnP g (l ++ [n]) (w1.setCell ⟨g, 1 + q, none⟩ (.int .u64 (z : Int))).drew) := ⟨_, _, HMk.out.1, by rw [HMk.out.2, ← HTt.out]; exact HTl.out, by rw [HMk.out.2, ← HTt.out]; exact hB4⟩
      clear hB4
      go_wp2
      go_ret
      exact ⟨rfl, HF.out, hC4⟩
end Go.Proofs.Ytmgkocoemgpgbaa
