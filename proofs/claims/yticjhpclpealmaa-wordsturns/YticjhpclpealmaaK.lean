/- The walk of the statement on rows that differ in one bit, out of the contracts. -/
import Derived.Test.YticjhpclpealmaaF
namespace Go.Proofs.Yticjhpclpealmaa
open Go.ChangeShapes Go.WideShapes Go.ChangeAt Go.RowKit
set_option linter.unusedSimpArgs false
set_option linter.unusedVariables false

set_option maxHeartbeats 2000000 in
theorem turns_long (v : Value) (l : List UInt8) (at_ bit : Int) (w : World) (hr : Rd w v l) (h0 : (0 : Int) < l.length) (h1 : (l.length : Int) ≤ 2000) :
    Calls Try.prog 8 #[v, .int .i64 at_, .int .i64 bit] w fun e w' => e = .returned (.bool true) ∧ Below w.heap.size w w' := by
  obtain ⟨X, hX, eX⟩ := and_small at_ 16777215 (by decide)
  obtain ⟨t, ht, et⟩ := and_small bit 7 (by decide)
  obtain ⟨m, hm0, em⟩ := pow_mask t ht
  obtain ⟨a, cap, ea, h2, h3, h4, _⟩ := id hr
  unfold maxLen at h3
  subst ea
  have hne : ((l.length : Int) == 0) = false := by rw [beq_eq_false_iff_ne]; omega
  go_enter Try.func8, Try.ntmps8
  go_wp2_with fail
  refine (awake_any _).mono ?_
  rintro e w1 ⟨rfl, hB1⟩
  have hr1 := hr.kept hB1
  go_wp2_with (at_builtin; go_must (refine wpList_append_new (w := w1) rfl _ _ 22 rfl 5 Try.underlying22 info5 _ _ rfl (New.start w1) _ l rfl hr1 (by simp; omega) ?_))
  intro v8 w2 hN8 _
  obtain ⟨k, hk⟩ : ∃ k : Nat, k = X % l.length := ⟨_, rfl⟩
  have hkl : k < l.length := by rw [hk]; exact Nat.mod_lt _ (by omega)
  have ek : (X : Int) % (l.length : Int) = (k : Int) := by rw [hk]; simp
  have eX' : bits .and .i64 at_ 16777215 = (X : Int) := eX
  have et' : bits .and .i64 bit 7 = (t : Int) := et
  have HB2 : Hid (Below w1.heap.size w1 w2) := hN8.2
  obtain ⟨a8, cap8, e8, hx2, hx3, _, _⟩ := hN8.rd
  subst e8
  obtain ⟨g, ea8, hg, hcap, hc, hf, hst⟩ := own_at rfl hN8.1 hkl
  subst ea8
  generalize hy : l.getD k 0 = y at hc
  obtain ⟨q1, q2, q3⟩ := turned l k hkl y m hy hm0
  have HST : Hid (∀ x : Int, x = ((y ^^^ m).toNat : Int) → Rd (w2.setCell ⟨g, k, none⟩ (.int .u8 x)) (.slice (some ⟨g, 0, none⟩) l.length cap8) (l.set k (y ^^^ m))) := fun x hx => Rd.of_row (hst (y ^^^ m) x hx)
  generalize hl' : l.set k (y ^^^ m) = l' at q1 q2 q3 HST
  have hll : l'.length = l.length := by rw [← hl']; simp
  have hkI : (k : Int) < l.length := by omega
  have hX0 : (0 : Int) ≤ X := by omega
  have HX : Hid _ := byte_xor y m
  have Hq1 : Hid (decide (l = l') = false) := decide_eq_false q1
  have Hq2 : Hid ((xorL l l').getD k 0 = m) := q2
  have Hq3 : Hid (decide (orL (xorL l l') = 0) = false) := decide_eq_false q3
  have Hll : Hid (l'.length = l.length) := hll
  clear hk eX et hst hN8 hy hl' q1 q2 q3 hll hm0
  go_wp2_with fail
  have hr3 := HST.out _ HX.out
  have hB3 : Below w1.heap.size w1 (w2.setCell ⟨g, k, none⟩ (.int .u8 (bits .xor .u8 (y.toNat : Int) (m.toNat : Int)))) := HB2.out.setCell hg _
  generalize w2.setCell ⟨g, k, none⟩ (.int .u8 (bits .xor .u8 (y.toNat : Int) (m.toNat : Int))) = w3 at hr3 hB3
  clear HST hc hf
  have hra3 := hr1.kept hB3
  refine (xor_any _ _ l l' _ hra3 hr3 (by omega)).mono ?_
  rintro e w4 ⟨v10, rfl, hN10⟩
  have hra4 := hra3.kept hN10.2
  have hr4 := hr3.kept hN10.2
  have hB4 := bstep hB3 hN10.2
  have hx4 := hN10.rd
  clear hB3 hra3 hr3 hN10
  go_wp2_with fail
  refine (equal_bool _ _ l l' false Hq1.out _ hra4 hr4).mono ?_
  rintro e w5 ⟨rfl, hE5⟩
  have hra5 := hra4.kept hE5
  have hx5 := hx4.kept hE5
  have hB5 := bstep hB4 hE5
  clear hE5 hra4 hr4 hB4 hx4
  obtain ⟨b10, o10, c10, e10, hcl, hc10, _⟩ := hx5.cellAt (i := k) (by rw [xorL_length, Hll.out]; omega)
  rw [Hq2.out] at hc10
  have HXL : Hid ((xorL l l').length = l.length) := by rw [Hid, xorL_length, Hll.out]; omega
  rw [HXL.out] at e10 hcl
  subst e10
  go_wp2_with fail
  refine (zero_bool _ (xorL l l') false Hq3.out _ hx5).mono ?_
  rintro e w' ⟨rfl, rfl⟩
  clear hc10
  go_wp2_with fail
  refine (xor_any _ _ l l _ hra5 hra5 (by omega)).mono ?_
  rintro e w6 ⟨v11, rfl, hN11⟩
  have hB6 := bstep hB5 hN11.2
  have hx6 := hN11.rd
  clear hB5 hN11
  go_wp2_with fail
  refine (zero_bool _ (xorL l l) true (decide_eq_true ((orL_xorL l l rfl).2 rfl)) _ hx6).mono ?_
  rintro e w' ⟨rfl, rfl⟩
  go_wp2
  go_ret
  exact ⟨rfl, bstep hB1 hB6⟩

set_option maxHeartbeats 2000000 in
theorem turns_walk (v : Value) (l : List UInt8) (at_ bit : Int) (w : World) (hr : Rd w v l) :
    Calls Try.prog 8 #[v, .int .i64 at_, .int .i64 bit] w fun e w' => e = .returned (.bool true) ∧ Below w.heap.size w w' := by
  by_cases h0 : l.length = 0
  · obtain ⟨a, cap, ea, h2, h3, h4, _⟩ := id hr
    have hne : ((l.length : Int) == 0) = true := by rw [beq_iff_eq]; omega
    subst ea
    clear h0
    go_enter Try.func8, Try.ntmps8
    go_wp2_with fail
    refine (awake_any _).mono ?_
    rintro e w1 ⟨rfl, hB1⟩
    go_wp2
    go_ret
    exact ⟨rfl, hB1⟩
  by_cases h1 : (l.length : Int) ≤ 2000
  · exact turns_long v l at_ bit w hr (by omega) h1
  · obtain ⟨a, cap, ea, h2, h3, h4, _⟩ := id hr
    have hne : ((l.length : Int) == 0) = false := by rw [beq_eq_false_iff_ne]; omega
    have hgt : 2000 < (l.length : Int) := by omega
    subst ea
    clear h0 h1
    go_enter Try.func8, Try.ntmps8
    go_wp2_with fail
    refine (awake_any _).mono ?_
    rintro e w1 ⟨rfl, hB1⟩
    go_wp2
    go_ret
    exact ⟨rfl, hB1⟩
end Go.Proofs.Yticjhpclpealmaa
