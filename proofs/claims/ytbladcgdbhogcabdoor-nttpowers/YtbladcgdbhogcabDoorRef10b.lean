/- What the document's own rounding, bits turned round and powers of 17 answer: contracts of the reference of layer 10, second part. -/
import Derived.Test.YtbladcgdbhogcabDoorRef10
namespace Go.Proofs.YtbladcgdbhogcabDoor
open Go.ChangeShapes Go.WideShapes Go.ChangeAt Go.RowKit
set_option linter.unusedSimpArgs false
set_option linter.unusedVariables false

theorem two_le {d : Nat} (h : d ≤ 12) : 1 ≤ 2 ^ d ∧ 2 ^ d ≤ 4096 :=
  ⟨Nat.pow_pos (by decide), Nat.le_trans (Nat.pow_le_pow_right (by decide) h) (by decide)⟩

set_option maxRecDepth 100000 in
set_option maxHeartbeats 1000000 in
theorem turnedZ_any (i : Int) (m : Nat) (hm : bits .and .i64 i 127 = (m : Int)) (hm2 : m ≤ 127) (w : World) :
    Calls Tryd.prog 35 #[.int .i64 i] w fun e w' => e = .returned (.int .i64 ((tnJ m 7 : Nat) : Int)) ∧ w' = w := by
  obtain ⟨Z, hZ⟩ : ∃ Z : Nat, Z = tnJ m 7 := ⟨_, rfl⟩
  rw [← hZ]
  have HZ : Hid _ := hZ
  clear hZ
  go_enter Tryd.func35, Tryd.ntmps35
  go_wp2_with fail
  go_loop [0, 3, 4] (fun iv nv jv => ∃ j q n : Nat, j ≤ 7 ∧ iv = .int .i64 (q : Int) ∧ Hid (q = m / 2 ^ j) ∧ q ≤ 127 ∧ nv = .int .i64 (n : Int) ∧ Hid (n = tnJ m j) ∧ n < 128 ∧ jv = .int .i64 (j : Int)) (fun _ _ jv => 7 - (intOf jv).toNat)
  case atStart => exact ⟨0, m, 0, by omega, rfl, by show _ = _; rw [Nat.pow_zero, Nat.div_one], hm2, rfl, rfl, by omega, rfl⟩
  case round =>
    obtain ⟨j, q, n, hj, rfl, HQ, hq, rfl, HN, hn, rfl⟩ := hrel
    by_cases hl : j < 7
    · have hd : decide ((j : Int) < 7) = true := decide_eq_true (by omega)
      have hjI : (j : Int) < 7 := by omega
      obtain ⟨r, hr⟩ : ∃ r : Nat, r = q % 2 := ⟨_, rfl⟩
      obtain ⟨s, hs⟩ : ∃ s : Nat, s = q / 2 := ⟨_, rfl⟩
      have e1 : (q : Int) % 2 = (r : Int) := by omega
      have e2 : (q : Int) / 2 = (s : Int) := by omega
      have HQ2 : Hid (s = m / 2 ^ (j + 1)) := by show _ = _; rw [hs, HQ.out, Nat.div_div_eq_div_mul, Nat.pow_succ]
      have HN2 : Hid (n * 2 + r = tnJ m (j + 1)) := by show _ = _; rw [HN.out, hr, HQ.out]; rfl
      have hn2 : n * 2 + r < 128 := by
        rw [HN2.out]
        exact Nat.lt_of_lt_of_le (tnJ_lt m (j + 1)) (Nat.le_trans (Nat.pow_le_pow_right (by decide) (show j + 1 ≤ 7 by omega)) (by decide))
      have hs2 : s ≤ 127 := by omega
      have hrb : r < 2 := by omega
      clear hr hs
      go_wp2
      go_round
      case rel => exact ⟨j + 1, s, n * 2 + r, by omega, by go_num, HQ2, hs2, by go_num, HN2, hn2, by go_num⟩
      case measure => simp [intOf] <;> omega
    · have hje : j = 7 := by omega
      have hd : decide ((j : Int) < 7) = false := decide_eq_false (by omega)
      have hjI : (7 : Int) ≤ (j : Int) := by omega
      have HN2 : Hid (n = Z) := by show _ = _; rw [HZ.out, HN.out, hje]
      clear hje HN
      go_wp2
      go_ret
      exact ⟨retZ (by rw [HN2.out]), rfl⟩

end Go.Proofs.YtbladcgdbhogcabDoor
