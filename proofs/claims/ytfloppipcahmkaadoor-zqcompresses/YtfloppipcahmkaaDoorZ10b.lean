/- What package zq's powers and its rests without dividing answer: contracts, second part. -/
import Derived.Test.YtfloppipcahmkaaDoorZ10a
namespace Go.Proofs.YtfloppipcahmkaaDoor
open Go.ChangeShapes Go.WideShapes Go.ChangeAt Go.RowKit
set_option linter.unusedSimpArgs false
set_option linter.unusedVariables false

theorem pw_even (o r m : Nat) (h : m % 2 = 0) : o * (r * r % 3329) ^ (m / 2) % 3329 = o * r ^ m % 3329 := by
  rw [Nat.mul_mod, ← Nat.pow_mod, ← Nat.mul_mod]
  have h1 : (r * r) ^ (m / 2) = r ^ m := by
    rw [show r * r = r ^ 2 by rw [Nat.pow_succ, Nat.pow_one], ← Nat.pow_mul]
    congr 1
    omega
  rw [h1]
theorem pw_odd (o r m : Nat) (h : m % 2 = 1) : o * r % 3329 * (r * r % 3329) ^ (m / 2) % 3329 = o * r ^ m % 3329 := by
  rw [Nat.mul_mod, ← Nat.pow_mod, Nat.mod_mod, ← Nat.mul_mod]
  have h1 : r * (r * r) ^ (m / 2) = r ^ m := by
    rw [show r * r = r ^ 2 by rw [Nat.pow_succ, Nat.pow_one], ← Nat.pow_mul, Nat.mul_comm, ← Nat.pow_succ]
    congr 1
    omega
  rw [Nat.mul_assoc, h1]
theorem and_one (m : Nat) (h : m ≤ 9223372036854775807) : bits .and .i64 (m : Int) 1 = ((m % 2 : Nat) : Int) := by
  have h1 := and_low 1 (by decide) (m : Int) ⟨by omega, by omega⟩
  rw [show twZ 1 (m : Int) = m % 2 by unfold twZ; omega] at h1
  exact h1

set_option maxRecDepth 100000 in
set_option maxHeartbeats 1000000 in
theorem zpower_any (a n : Int) (ha : In64 a) (hn : In64 n) (w : World) :
    Calls Tryd.prog 15 #[.int .i64 a, .int .i64 n] w fun e w' => e = .returned (.int .i64 ((pwZ a n : Nat) : Int)) ∧ w' = w := by
  obtain ⟨Z, hZ⟩ : ∃ Z : Nat, Z = pwZ a n := ⟨_, rfl⟩
  rw [← hZ]
  have HZZ : Hid _ := hZ
  clear hZ
  by_cases h0 : n < 0
  · have hd : decide (n < 0) = true := decide_eq_true h0
    have HF : Hid (Z = 0) := by show _ = _; rw [HZZ.out]; unfold pwZ; rw [if_pos h0]
    go_enter Tryd.func15, Tryd.ntmps15
    go_wp2
    go_ret
    exact ⟨retZ (by rw [HF.out]; rfl), rfl⟩
  have hd0 : decide (n < 0) = false := decide_eq_false h0
  have hn0 : 0 ≤ n := by omega
  obtain ⟨M, hm⟩ : ∃ m : Nat, n = (m : Int) := ⟨n.toNat, by omega⟩
  subst hm
  have HF : Hid (Z = 1 * rsZ a ^ M % 3329) := by show _ = _; rw [HZZ.out]; unfold pwZ; rw [if_neg h0, Nat.one_mul]; rfl
  have hM : M ≤ 9223372036854775807 := by omega
  clear h0 HZZ
  go_enter Tryd.func15, Tryd.ntmps15
  go_wp2_with fail
  go_loop [0, 1, 5] (fun av nv ov => ∃ (x : Int) (m o : Nat), In64 x ∧ av = .int .i64 x ∧ nv = .int .i64 (m : Int) ∧ m ≤ 9223372036854775807 ∧ ov = .int .i64 (o : Int) ∧ o < 3329 ∧ Hid (Z = o * rsZ x ^ m % 3329)) (fun _ nv _ => (intOf nv).toNat)
  case atStart => exact ⟨a, M, 1, ha, rfl, rfl, hM, rfl, by omega, HF⟩
  case round =>
    obtain ⟨x, m, o, hx, rfl, rfl, hm, rfl, ho, HO⟩ := hrel
    clear HF hM hn0 hn ha hd0
    by_cases hl : 0 < m
    · have hd : decide ((0 : Int) < (m : Int)) = true := decide_eq_true (by omega)
      have hlI : (0 : Int) < (m : Int) := by omega
      have e1 := and_one m hm
      have e2 : (m : Int) / 2 = ((m / 2 : Nat) : Int) := by omega
      have e3 : (m : Int) / 2 ^ 1 = ((m / 2 : Nat) : Int) := by omega
      by_cases hb : m % 2 = 1
      · have HO2 : Hid (Z = rsZ ((o : Int) * x) * rsZ ((rsZ (x * x) : Nat) : Int) ^ (m / 2) % 3329) := by
          show _ = _
          rw [HO.out, rs_rest, rs_mul, rs_mul, rsZ_nat, Nat.mod_eq_of_lt ho]
          exact (pw_odd _ _ _ hb).symm
        rw [hb] at e1
        have HM : Hid (m / 2 < m) := by show _ < _; omega
        generalize m / 2 = k at e2 e3 HO2 HM
        have hk : k ≤ 9223372036854775807 := by have := HM.out; omega
        go_wp2_with fail
        refine (zmul_any (o : Int) x ⟨by omega, by omega⟩ hx _).mono ?_
        rintro e w1 ⟨rfl, rfl⟩
        go_wp2_with fail
        refine (zmul_any x x hx hx _).mono ?_
        rintro e w2 ⟨rfl, rfl⟩
        have hb1 := rsZ_lt ((o : Int) * x)
        have hb2 := rsZ_lt (x * x)
        generalize rsZ ((o : Int) * x) = p at HO2 hb1
        generalize rsZ (x * x) = q at HO2 hb2
        go_wp2
        go_round
        case rel => exact ⟨(q : Int), k, p, ⟨by omega, by omega⟩, rfl, by go_num, hk, rfl, hb1, HO2⟩
        case measure => have := HM.out; simp [intOf] <;> omega
      · have hb0 : m % 2 = 0 := by omega
        have HO2 : Hid (Z = o * rsZ ((rsZ (x * x) : Nat) : Int) ^ (m / 2) % 3329) := by
          show _ = _
          rw [HO.out, rs_rest, rs_mul]
          exact (pw_even _ _ _ hb0).symm
        rw [hb0] at e1
        have HM : Hid (m / 2 < m) := by show _ < _; omega
        clear hb hb0
        generalize m / 2 = k at e2 e3 HO2 HM
        have hk : k ≤ 9223372036854775807 := by have := HM.out; omega
        go_wp2_with fail
        refine (zmul_any x x hx hx _).mono ?_
        rintro e w2 ⟨rfl, rfl⟩
        have hb2 := rsZ_lt (x * x)
        generalize rsZ (x * x) = q at HO2 hb2
        go_wp2
        go_round
        case rel => exact ⟨(q : Int), k, o, ⟨by omega, by omega⟩, rfl, by go_num, hk, rfl, ho, HO2⟩
        case measure => have := HM.out; simp [intOf] <;> omega
    · have hm0 : m = 0 := by omega
      subst hm0
      have HE : Hid (o = Z) := by
        show _ = _
        rw [HO.out, Nat.pow_zero, Nat.mul_one, Nat.mod_eq_of_lt ho]
      clear HO hl hm
      go_wp2
      go_ret
      exact ⟨retZ (by rw [HE.out]), rfl⟩

theorem zbarrett_any (x : Nat) (X : Int) (hX : X = (x : Int)) (hx : x < 4294967296) (w : World) :
    Calls Tryd.prog 17 #[.int .u32 X] w fun e w' => e = .returned (.int .i64 ((x % 3329 : Nat) : Int)) ∧ w' = w := by
  subst hX
  obtain ⟨p, hp⟩ : ∃ p : Nat, p = x * 2642262848 := ⟨_, rfl⟩
  obtain ⟨t, ht⟩ : ∃ t : Nat, t = p / 8796093022208 := ⟨_, rfl⟩
  have htb : t ≤ 1290168 := by omega
  have hpb : p < 18446744073709551616 := by omega
  have e1 : (x : Int) * 2642262848 = (p : Int) := by omega
  have e2 : (p : Int) / 8796093022208 = (t : Int) := by omega
  have e3 : (p : Int) / 2 ^ 43 = (t : Int) := by omega
  have h1 : t * 3329 ≤ x := by omega
  have h2 : x < t * 3329 + 6658 := by omega
  obtain ⟨r, hr⟩ : ∃ r : Nat, x = t * 3329 + r := ⟨x - t * 3329, by omega⟩
  have hrb : r < 6658 := by omega
  have e4 : (x : Int) - (t : Int) * 3329 = (r : Int) := by omega
  have HF : Hid (rsZ ((r : Int) - 3329) = x % 3329) := by
    show _ = _
    unfold rsZ
    omega
  clear hp ht hr
  go_enter Tryd.func17, Tryd.ntmps17
  go_wp2_with fail
  refine (zlifted_any ((r : Int) - 3329) (by omega) (by omega) _).mono ?_
  rintro e w1 ⟨rfl, rfl⟩
  go_wp2
  go_ret
  exact ⟨retZ (by rw [HF.out]), rfl⟩

theorem zmontg_any (x : Nat) (X : Int) (hX : X = (x : Int)) (hx : x < 4294967296) (w : World) :
    Calls Tryd.prog 18 #[.int .u32 X] w fun e w' => e = .returned (.int .i64 ((mgZ x : Nat) : Int)) ∧ w' = w := by
  subst hX
  obtain ⟨p, hp⟩ : ∃ p : Nat, p = x * 3327 := ⟨_, rfl⟩
  obtain ⟨t, ht⟩ : ∃ t : Nat, t = p % 65536 := ⟨_, rfl⟩
  obtain ⟨s, hs⟩ : ∃ s : Nat, s = x + t * 3329 := ⟨_, rfl⟩
  obtain ⟨y, hy⟩ : ∃ y : Nat, y = s / 65536 := ⟨_, rfl⟩
  have h65 : y * 65536 = s := by omega
  have HF : Hid (y % 3329 = mgZ x) := by
    show _ = _
    unfold mgZ
    omega
  have htb : t < 65536 := by omega
  have hyb : y < 4294967296 := by omega
  have hpb : p < 18446744073709551616 := by omega
  have e1 : (x : Int) * 3327 = (p : Int) := by omega
  have e2 : bits .and .u64 (p : Int) 65535 = (t : Int) := by
    have a1 : (BitVec.ofInt 64 (p : Int)).toNat = p := ofInt_u64 p hpb
    show IntKind.u64.wrap (((BitVec.ofInt 64 (p : Int)) &&& (BitVec.ofInt 64 65535)).toNat : Int) = _
    rw [BitVec.toNat_and, a1, show (BitVec.ofInt 64 65535).toNat = 2 ^ 16 - 1 by decide, Nat.and_two_pow_sub_one_eq_mod, IntKind.wrap_u64]
    omega
  have e3 : (x : Int) + (t : Int) * 3329 = (s : Int) := by omega
  have e4 : (s : Int) / 65536 = (y : Int) := by omega
  have e5 : (s : Int) / 2 ^ 16 = (y : Int) := by omega
  have hsb : s < 18446744073709551616 := by omega
  clear hp ht hs hy h65
  go_enter Tryd.func18, Tryd.ntmps18
  go_wp2_with fail
  refine (zbarrett_any y _ rfl hyb _).mono ?_
  rintro e w1 ⟨rfl, rfl⟩
  go_wp2
  go_ret
  exact ⟨retZ (by have := HF.out; omega), rfl⟩
end Go.Proofs.YtfloppipcahmkaaDoor
