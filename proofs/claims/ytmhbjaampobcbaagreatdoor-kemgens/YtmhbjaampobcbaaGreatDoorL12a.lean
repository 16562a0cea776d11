/- Bits of bytes, counted and joined: contracts of package sample, first part. -/
import Derived.Test.YtmhbjaampobcbaaGreatDoorNum
import Derived.Test.YtmhbjaampobcbaaGreatDoorRfa
import Derived.Test.YtmhbjaampobcbaaGreatDoorBase
namespace Go.Proofs.YtmhbjaampobcbaaGreatDoor
open Go.ChangeShapes Go.WideShapes Go.ChangeAt Go.RowKit
set_option linter.unusedSimpArgs false
set_option linter.unusedVariables false

set_option maxHeartbeats 1000000 in
theorem bitAt_any (v : Value) (b : List UInt8) (m : Nat) (M : Int) (hM : M = (m : Int)) (hm : m < 8 * b.length) (w : World) (hb : Rd w v b) :
  Calls Tryz.prog 141 #[v, .int .i64 M] w fun e w' => e = .returned (.int .i64 ((btY b m : Nat) : Int)) ∧ w' = w := by
 subst hM
 obtain ⟨gb, ob, c', ev, -, hc, -⟩ := hb.cellAt (i := m / 8) (by omega)
 subst ev
 have hlen : b.length ≤ 9223372036854775807 := by
  obtain ⟨_, _, e1, _, h3, _, _⟩ := hb
  unfold maxLen at h3
  omega
 have HE : Hid ((b.getD (m / 8) 0).toNat / 2 ^ (m % 8) % 2 = btY b m) := by show _ = _; rfl
 have hx := (b.getD (m / 8) 0).toNat_lt
 generalize (b.getD (m / 8) 0).toNat = x at hc HE hx
 obtain ⟨q, r, y, p, hq, hr, hr8, hp, f1, f2, f3, f4, f5, f6, hy⟩ := bit_facts x m (by omega)
 rw [← hq] at hc
 have hqb : (q : Int) < (b.length : Int) := by omega
 have hqb2 : q < b.length := by omega
 have HP : Hid _ := hp
 have xw : IntKind.i64.wrap (x : Int) = (x : Int) := IntWalk.i64_in _ (by omega)
 have qw : IntKind.i64.wrap (q : Int) = (q : Int) := IntWalk.i64_in _ (by omega)
 have rw' : IntKind.i64.wrap (r : Int) = (r : Int) := IntWalk.i64_in _ (by omega)
 clear hb hp hq hr hx hm hlen
 go_enter Tryz.func141, Tryz.ntmps141
 go_wp2
 go_ret
 exact ⟨retZ (by rw [HP.out, HE.out]), rfl⟩

set_option maxHeartbeats 1000000 in
theorem ones_any (v : Value) (b : List UInt8) (m n : Nat) (M E : Int) (hM : M = (m : Int)) (hE : E = (n : Int)) (hn : n ≤ 12) (hm : m + n ≤ 8 * b.length) (hs : m ≤ 1000000) (w : World) (hb : Rd w v b) :
  Calls Tryz.prog 159 #[v, .int .i64 M, .int .i64 E] w fun e w' => e = .returned (.int .i64 ((cn b m n : Nat) : Int)) ∧ w' = w := by
 subst hM hE
 have HB : Hid (Rd w v b) := hb
 have HM : Hid (m + n ≤ 8 * b.length) := hm
 obtain ⟨ab, cb, rfl, -, -, -, -⟩ := id hb
 clear hb hm
 go_enter Tryz.func159, Tryz.ntmps159
 go_wp2
 go_loop [7, 10] (fun cv iv => ∃ i : Nat, i ≤ n ∧ iv = .int .i64 (i : Int) ∧ cv = .int .i64 ((cn b m i : Nat) : Int)) (fun _ iv => n - (intOf iv).toNat)
 case atStart => exact ⟨0, by omega, rfl, rfl⟩
 case round =>
  obtain ⟨i, hi, rfl, rfl⟩ := hrel
  by_cases hlt : i < n
  ·have hd : decide ((i : Int) < (n : Int)) = true := decide_eq_true (by omega)
   have hiI : (i : Int) < (n : Int) := by omega
   have hA := add_facts b m i (by omega)
   obtain ⟨z, hz⟩ : ∃ z : Nat, z = cn b m (i + 1) := ⟨_, rfl⟩
   rw [← hz] at hA
   have HZ : Hid _ := hz
   clear hz
   obtain ⟨j, hj⟩ : ∃ j : Nat, j = m + i := ⟨_, rfl⟩
   have ej : IntKind.i64.wrap ((m : Int) + (i : Int)) = (j : Int) := by rw [IntWalk.i64_in _ (by omega)]; omega
   have ej2 : (m : Int) + (i : Int) = (j : Int) := by omega
   rw [← hj] at hA
   have HJ : Hid (j < 8 * b.length) := by have := HM.out; show _ < _; omega
   clear hj
   go_wp2_with fail
   refine (bitAt_any _ b j _ (by first | rfl | omega) HJ.out _ HB.out).mono ?_
   rintro e w1 ⟨rfl, rfl⟩
   go_wp2
   go_round
   case rel => exact ⟨i + 1, by omega, by go_num, by rw [← HZ.out]⟩
   case measure => simp [intOf] <;> omega
  ·have hie : i = n := by omega
   have hd : decide ((i : Int) < (n : Int)) = false := decide_eq_false (by omega)
   have hiI : (n : Int) ≤ (i : Int) := by omega
   have HE : Hid (cn b m i = cn b m n) := by show _ = _; rw [hie]
   clear hie
   go_wp2
   go_ret
   exact ⟨retZ (by rw [HE.out]), rfl⟩

set_option maxHeartbeats 1000000 in
theorem number_any (v : Value) (b : List UInt8) (m n : Nat) (M E : Int) (hM : M = (m : Int)) (hE : E = (n : Int)) (hn : n ≤ 12) (hm : m + n ≤ 8 * b.length) (hs : m ≤ 1000000) (w : World) (hb : Rd w v b) :
  Calls Tryz.prog 107 #[v, .int .i64 M, .int .i64 E] w fun e w' => e = .returned (.int .i64 ((bs (btY b) m n : Nat) : Int)) ∧ w' = w := by
 subst hM hE
 have HB : Hid (Rd w v b) := hb
 have HM : Hid (m + n ≤ 8 * b.length) := hm
 obtain ⟨ab, cb, rfl, -, -, -, -⟩ := id hb
 clear hb hm
 go_enter Tryz.func107, Tryz.ntmps107
 go_wp2
 go_loop [7, 10] (fun cv iv => ∃ i N : Nat, i ≤ n ∧ iv = .int .i64 (i : Int) ∧ cv = .int .i64 (N : Int) ∧ Hid (N = bs (btY b) m i)) (fun _ iv => n - (intOf iv).toNat)
 case atStart => exact ⟨0, 0, by omega, rfl, rfl, (by show _ = _; rfl)⟩
 case round =>
  obtain ⟨i, N, hi, rfl, rfl, HN⟩ := hrel
  by_cases hlt : i < n
  ·have hd : decide ((i : Int) < (n : Int)) = true := decide_eq_true (by omega)
   have hiI : (i : Int) < (n : Int) := by omega
   obtain ⟨P, z, f1, f2, f3, hz⟩ := join_facts (btY b) (btY_lt b) m i (by omega)
   rw [← HN.out] at f3
   obtain ⟨j, hj⟩ : ∃ j : Nat, j = m + i := ⟨_, rfl⟩
   have ej : IntKind.i64.wrap ((m : Int) + (i : Int)) = (j : Int) := by rw [IntWalk.i64_in _ (by omega)]; omega
   have ej2 : (m : Int) + (i : Int) = (j : Int) := by omega
   rw [← hj] at f1
   have HJ : Hid (j < 8 * b.length) := by have := HM.out; show _ < _; omega
   have HZ : Hid _ := hz
   clear hj hz
   go_wp2_with fail
   refine (bitAt_any _ b j _ (by first | rfl | omega) HJ.out _ HB.out).mono ?_
   rintro e w1 ⟨rfl, rfl⟩
   generalize btY b j = p at f1
   go_wp2
   go_round
   case rel => exact ⟨i + 1, z, by omega, by go_num, rfl, HZ⟩
   case measure => simp [intOf] <;> omega
  ·have hie : i = n := by omega
   have hd : decide ((i : Int) < (n : Int)) = false := decide_eq_false (by omega)
   have hiI : (n : Int) ≤ (i : Int) := by omega
   have HE : Hid (N = bs (btY b) m n) := by show _ = _; rw [HN.out, hie]
   clear hie
   go_wp2
   go_ret
   exact ⟨retZ (by rw [HE.out]), rfl⟩
end Go.Proofs.YtmhbjaampobcbaaGreatDoor
