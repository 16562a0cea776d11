/- What functions of the program, or of the reference, answer: contracts; several texts in one. -/
import Derived.Test.YtmhbjaampobcbaaGreatDoorNum
import Derived.Test.YtmhbjaampobcbaaGreatDoorRfa
import Derived.Test.YtmhbjaampobcbaaGreatDoorBase
import Derived.Below

namespace Go.Proofs.YtmhbjaampobcbaaGreatDoor
open Go.ChangeShapes Go.WideShapes Go.ChangeAt Go.RowKit
set_option linter.unusedSimpArgs false
set_option linter.unusedVariables false

theorem and_none : bits .and .i64 3329 0 = 0 := by decide +kernel
theorem and_all : bits .and .i64 3329 (-1) = 3329 := by decide +kernel
theorem zlifted_any (x : Int) (h1 : -3329 ≤ x) (h2 : x < 3329) (w : World) :
  Calls Tryz.prog 140 #[.int .i64 x] w fun e w' => e = .returned (.int .i64 ((rsZ x : Nat) : Int)) ∧ w' = w := by
 rw [rsZ_int]
 have a0 := and_none
 have a1 := and_all
 by_cases h0 : x < 0
 ·have e1 : x / 9223372036854775808 = -1 := by omega
  have e2 : x / 2 ^ 63 = -1 := by omega
  have HE : Hid (x + 3329 = x % 3329) := by show _ = _; omega
  go_enter Tryz.func140, Tryz.ntmps140
  go_wp2
  go_ret
  exact ⟨retZ HE.out, rfl⟩
 ·have e1 : x / 9223372036854775808 = 0 := by omega
  have e2 : x / 2 ^ 63 = 0 := by omega
  have HE : Hid (x = x % 3329) := by show _ = _; omega
  go_enter Tryz.func140, Tryz.ntmps140
  go_wp2
  go_ret
  exact ⟨retZ (by have := HE.out; omega), rfl⟩

theorem tmod_rest (x : Int) : ∃ r : Int, x.tmod 3329 = r ∧ -3329 < r ∧ r < 3329 ∧ rsZ r = rsZ x := by
 refine ⟨_, rfl, ?_⟩
 unfold rsZ
 by_cases h : 0 ≤ x
 ·rw [Int.tmod_eq_emod_of_nonneg h]
  omega
 ·obtain ⟨y, rfl⟩ : ∃ y, x = -y := ⟨-x, by omega⟩
  rw [Int.neg_tmod, Int.tmod_eq_emod_of_nonneg (by omega)]
  omega
theorem zmod_any (x : Int) (hx : In64 x) (w : World) :
  Calls Tryz.prog 106 #[.int .i64 x] w fun e w' => e = .returned (.int .i64 ((rsZ x : Nat) : Int)) ∧ w' = w := by
 obtain ⟨r, hr, h1, h2, h3⟩ := tmod_rest x
 rw [← h3]
 have H3 : Hid _ := h3
 clear h3
 go_enter Tryz.func106, Tryz.ntmps106
 go_wp2_with fail
 refine (zlifted_any r (by omega) h2 _).mono ?_
 rintro e w1 ⟨rfl, rfl⟩
 go_wp2
 go_ret
 exact ⟨rfl, rfl⟩

theorem zadd_any (a b : Int) (ha : In64 a) (hb : In64 b) (w : World) :
  Calls Tryz.prog 128 #[.int .i64 a, .int .i64 b] w fun e w' => e = .returned (.int .i64 ((rsZ (a + b) : Nat) : Int)) ∧ w' = w := by
 have HF : Hid (rsZ (a + b) = rsZ (((rsZ a : Nat) : Int) + ((rsZ b : Nat) : Int) - 3329)) := by
  show _ = _
  rw [rsZ_int, rsZ_int]
  unfold rsZ
  omega
 have h1 := rsZ_lt a
 have h2 := rsZ_lt b
 go_enter Tryz.func128, Tryz.ntmps128
 go_wp2_with fail
 refine (zmod_any a ha _).mono ?_
 rintro e w1 ⟨rfl, rfl⟩
 go_wp2_with fail
 refine (zmod_any b hb _).mono ?_
 rintro e w2 ⟨rfl, rfl⟩
 generalize rsZ a = p at h1 HF ⊢
 generalize rsZ b = q at h2 HF ⊢
 go_wp2_with fail
 refine (zlifted_any _ (by omega) (by omega) _).mono ?_
 rintro e w3 ⟨rfl, rfl⟩
 go_wp2
 go_ret
 exact ⟨retZ (by rw [HF.out]), rfl⟩

theorem zsub_any (a b : Int) (ha : In64 a) (hb : In64 b) (w : World) :
  Calls Tryz.prog 118 #[.int .i64 a, .int .i64 b] w fun e w' => e = .returned (.int .i64 ((rsZ (a - b) : Nat) : Int)) ∧ w' = w := by
 have HF : Hid (rsZ (a - b) = rsZ (((rsZ a : Nat) : Int) - ((rsZ b : Nat) : Int))) := by
  show _ = _
  rw [rsZ_int, rsZ_int]
  unfold rsZ
  omega
 have h1 := rsZ_lt a
 have h2 := rsZ_lt b
 go_enter Tryz.func118, Tryz.ntmps118
 go_wp2_with fail
 refine (zmod_any a ha _).mono ?_
 rintro e w1 ⟨rfl, rfl⟩
 go_wp2_with fail
 refine (zmod_any b hb _).mono ?_
 rintro e w2 ⟨rfl, rfl⟩
 generalize rsZ a = p at h1 HF ⊢
 generalize rsZ b = q at h2 HF ⊢
 go_wp2_with fail
 refine (zlifted_any _ (by omega) (by omega) _).mono ?_
 rintro e w3 ⟨rfl, rfl⟩
 go_wp2
 go_ret
 exact ⟨retZ (by rw [HF.out]), rfl⟩

theorem zmul_any (a b : Int) (ha : In64 a) (hb : In64 b) (w : World) :
  Calls Tryz.prog 122 #[.int .i64 a, .int .i64 b] w fun e w' => e = .returned (.int .i64 ((rsZ (a * b) : Nat) : Int)) ∧ w' = w := by
 have HF : Hid (rsZ (a * b) = rsZ ((rsZ a * rsZ b : Nat) : Int)) := by
  show _ = _
  rw [rs_mul, rsZ_nat]
 have h1 := rsZ_lt a
 have h2 := rsZ_lt b
 go_enter Tryz.func122, Tryz.ntmps122
 go_wp2_with fail
 refine (zmod_any a ha _).mono ?_
 rintro e w1 ⟨rfl, rfl⟩
 go_wp2_with fail
 refine (zmod_any b hb _).mono ?_
 rintro e w2 ⟨rfl, rfl⟩
 generalize rsZ a = p at h1 HF ⊢
 generalize rsZ b = q at h2 HF ⊢
 obtain ⟨y, hy⟩ : ∃ y : Nat, y = p * q := ⟨_, rfl⟩
 have hyb : y ≤ 3329 * 3329 := by rw [hy]; exact Nat.mul_le_mul (by omega) (by omega)
 have e1 : (p : Int) * (q : Int) = (y : Int) := by rw [hy, Int.natCast_mul]
 rw [← hy] at HF
 clear hy
 go_wp2_with fail
 refine (zmod_any (y : Int) ⟨by omega, by omega⟩ _).mono ?_
 rintro e w3 ⟨rfl, rfl⟩
 go_wp2
 go_ret
 exact ⟨retZ (by rw [HF.out]), rfl⟩
theorem zrounds_in (d : Int) (h1 : 1 ≤ d) (h2 : d ≤ 11) (w : World) :
  Calls Tryz.prog 145 #[.int .i64 d] w fun e w' => e = .returned (.bool true) ∧ w' = w := by
 have d1 : decide (1 ≤ d) = true := decide_eq_true h1
 have d2 : decide (d ≤ 11) = true := decide_eq_true h2
 go_enter Tryz.func145, Tryz.ntmps145
 go_wp2
 go_ret
 exact ⟨rfl, rfl⟩

theorem zrounds_out (d : Int) (h : d < 1 ∨ 11 < d) (w : World) :
  Calls Tryz.prog 145 #[.int .i64 d] w fun e w' => e = .returned (.bool false) ∧ w' = w := by
 by_cases h1 : 1 ≤ d
 ·have h2 : ¬ d ≤ 11 := by omega
  have h3 : 11 < d := by omega
  have d1 : decide (1 ≤ d) = true := decide_eq_true h1
  have d2 : decide (d ≤ 11) = false := decide_eq_false h2
  clear h
  go_enter Tryz.func145, Tryz.ntmps145
  go_wp2
  go_ret
  exact ⟨rfl, rfl⟩
 ·have d1 : decide (1 ≤ d) = false := decide_eq_false h1
  clear h
  go_enter Tryz.func145, Tryz.ntmps145
  go_wp2
  go_ret
  exact ⟨rfl, rfl⟩

set_option maxHeartbeats 1000000 in
theorem zlowest_any (d : Nat) (D x : Int) (hD : D = (d : Int)) (h2 : d ≤ 12) (hx : In64 x) (w : World) :
  Calls Tryz.prog 146 #[.int .i64 D, .int .i64 x] w fun e w' => e = .returned (.int .i64 ((twZ d x : Nat) : Int)) ∧ w' = w := by
 subst hD
 have HA : Hid _ := and_low d (by omega) x hx
 obtain ⟨t1, t2⟩ := two_le h2
 obtain ⟨T, hT⟩ : ∃ T : Nat, T = 2 ^ d := ⟨_, rfl⟩
 rw [← hT] at HA t1 t2
 have e1 : (2 : Int) ^ d = (T : Int) := by rw [hT]; push_cast; rfl
 have HT : Hid _ := hT
 clear hT
 have e2 : ((T - 1 : Nat) : Int) = (T : Int) - 1 := by omega
 rw [e2] at HA
 have a1 := HA.out
 clear e2
 go_enter Tryz.func146, Tryz.ntmps146
 go_wp2
 go_ret
 exact ⟨rfl, rfl⟩

set_option maxHeartbeats 1000000 in
theorem zcomp_out (d x : Int) (h : d < 1 ∨ 11 < d) (w : World) :
  Calls Tryz.prog 124 #[.int .i64 d, .int .i64 x] w fun e w' => e = .returned (.int .i64 0) ∧ w' = w := by
 go_enter Tryz.func124, Tryz.ntmps124
 go_wp2_with fail
 refine (zrounds_out d h _).mono ?_
 rintro e w1 ⟨rfl, rfl⟩
 go_wp2
 go_ret
 exact ⟨rfl, rfl⟩

set_option maxHeartbeats 1000000 in
theorem zdeco_out (d x : Int) (h : d < 1 ∨ 11 < d) (w : World) :
  Calls Tryz.prog 115 #[.int .i64 d, .int .i64 x] w fun e w' => e = .returned (.int .i64 0) ∧ w' = w := by
 go_enter Tryz.func115, Tryz.ntmps115
 go_wp2_with fail
 refine (zrounds_out d h _).mono ?_
 rintro e w1 ⟨rfl, rfl⟩
 go_wp2
 go_ret
 exact ⟨rfl, rfl⟩

set_option maxHeartbeats 1000000 in
theorem zcomp_any (d : Nat) (D x : Int) (hD : D = (d : Int)) (h1 : 1 ≤ d) (h2 : d ≤ 11) (hx : In64 x) (w : World) :
  Calls Tryz.prog 124 #[.int .i64 D, .int .i64 x] w fun e w' => e = .returned (.int .i64 ((cpZ d x : Nat) : Int)) ∧ w' = w := by
 subst hD
 have hr := rsZ_lt x
 obtain ⟨t3, t4⟩ := two_le (d := d + 1) (by omega)
 obtain ⟨q, hq⟩ : ∃ q : Nat, q = (2 ^ (d + 1) * rsZ x + 3329) / 6658 := ⟨_, rfl⟩
 have HF : Hid (cpZ d x = twZ d (q : Int)) := by
  show _ = _
  unfold cpZ twZ
  rw [← hq, ← Int.natCast_emod, Int.toNat_natCast]
 go_enter Tryz.func124, Tryz.ntmps124
 go_wp2_with fail
 refine (zrounds_in d (by omega) (by omega) _).mono ?_
 rintro e w1 ⟨rfl, rfl⟩
 go_wp2_with fail
 refine (zmod_any x hx _).mono ?_
 rintro e w2 ⟨rfl, rfl⟩
 generalize rsZ x = r at hr hq
 obtain ⟨k, hk⟩ : ∃ k : Nat, k = d + 1 := ⟨_, rfl⟩
 rw [← hk] at hq t3 t4
 have ek : (d : Int) + 1 = (k : Int) := by omega
 have hkb : k ≤ 12 := by omega
 obtain ⟨S, hS⟩ : ∃ S : Nat, S = 2 ^ k := ⟨_, rfl⟩
 have eS : (2 : Int) ^ k = (S : Int) := by rw [hS]; push_cast; rfl
 rw [← hS] at hq t3 t4
 obtain ⟨p, hp⟩ : ∃ p : Nat, p = S * r := ⟨_, rfl⟩
 rw [← hp] at hq
 have hpb : p ≤ 4096 * 3329 := by rw [hp]; exact Nat.mul_le_mul t4 (by omega)
 have e1 : (r : Int) * (S : Int) = (p : Int) := by rw [hp, Int.natCast_mul, Int.mul_comm]
 have e2 : ((p : Int) + 3329) / 6658 = (q : Int) := by omega
 have hqb : q ≤ 4096 := by omega
 clear hp hq hS hx hk
 go_wp2_with fail
 refine (zlowest_any d _ (q : Int) rfl (by omega) ⟨by omega, by omega⟩ _).mono ?_
 rintro e w3 ⟨rfl, rfl⟩
 go_wp2
 go_ret
 exact ⟨retZ (by rw [HF.out]), rfl⟩

set_option maxHeartbeats 1000000 in
theorem zdeco_any (d : Nat) (D y : Int) (hD : D = (d : Int)) (h1 : 1 ≤ d) (h2 : d ≤ 11) (hy : In64 y) (w : World) :
  Calls Tryz.prog 115 #[.int .i64 D, .int .i64 y] w fun e w' => e = .returned (.int .i64 ((dcZ d y : Nat) : Int)) ∧ Below w.heap.size w w' := by
 subst hD
 obtain ⟨t1, t2⟩ := two_le (d := d) (by omega)
 obtain ⟨t3, t4⟩ := two_le (d := d + 1) (by omega)
 have hs := twZ_lt d y
 obtain ⟨Z, hZ⟩ : ∃ Z : Nat, Z = dcZ d y := ⟨_, rfl⟩
 have HZ : Hid (Z = (6658 * twZ d y + 2 ^ d) / 2 ^ (d + 1)) := hZ
 rw [← hZ]
 have T1 : Hid (∀ w : World, Calls Tryz.prog 146 #[.int .i64 (d : Int), .int .i64 y] w fun e w' => e = .returned (.int .i64 ((twZ d y : Nat) : Int)) ∧ w' = w) := fun w => zlowest_any d _ y rfl (by omega) hy w
 generalize twZ d y = s at hs HZ T1
 obtain ⟨k, hk⟩ : ∃ k : Nat, k = d + 1 := ⟨_, rfl⟩
 rw [← hk] at HZ t3 t4
 have ek : (d : Int) + 1 = (k : Int) := by omega
 obtain ⟨T, hT⟩ : ∃ T : Nat, T = 2 ^ d := ⟨_, rfl⟩
 have eT : (2 : Int) ^ d = (T : Int) := by rw [hT]; push_cast; rfl
 obtain ⟨S, hS⟩ : ∃ S : Nat, S = 2 ^ k := ⟨_, rfl⟩
 have eS : (2 : Int) ^ k = (S : Int) := by rw [hS]; push_cast; rfl
 rw [← hS] at HZ t3 t4
 rw [← hT] at HZ t1 t2 hs
 obtain ⟨p, hp⟩ : ∃ p : Nat, p = 6658 * s + T := ⟨_, rfl⟩
 have hpb : p ≤ 30000000 := by omega
 rw [← hp] at HZ
 have e5 : 6658 * (s : Int) + (T : Int) = (p : Int) := by omega
 have e4 : (p : Int) / (S : Int) = (Z : Int) := by rw [HZ.out, Int.natCast_ediv]
 have hZb : Z ≤ p := by rw [HZ.out]; exact Nat.div_le_self _ _
 have w1 : IntKind.i64.wrap (6658 * (s : Int)) = 6658 * (s : Int) := IntWalk.i64_in _ (by constructor <;> omega)
 have w2 : IntKind.i64.wrap (T : Int) = (T : Int) := IntWalk.i64_in _ (by constructor <;> omega)
 have w3 : IntKind.i64.wrap (k : Int) = (k : Int) := IntWalk.i64_in _ (by constructor <;> omega)
 have w4 : IntKind.i64.wrap (p : Int) = (p : Int) := IntWalk.i64_in _ (by constructor <;> omega)
 have w5 : IntKind.i64.wrap (Z : Int) = (Z : Int) := IntWalk.i64_in _ (by constructor <;> omega)
 have hk0 : ¬ (k : Int) < 0 := by omega
 have hd0 : ¬ (d : Int) < 0 := by omega
 have hkn : ((k : Int)).toNat = k := by omega
 clear hZ hp hS hT hk hy HZ
 go_enter Tryz.func115, Tryz.ntmps115
 go_wp2_with fail
 refine (zrounds_in d (by omega) (by omega) _).mono ?_
 rintro e w1 ⟨rfl, rfl⟩
 go_wp2_with fail
 refine wpG_begin (by kernel_rfl) ?_
 refine wpG_t (i := 0) (oi := ⟨some 8, .move (.tmp 0), 3, "zq.go:101", #[], none⟩) (v := ?_) ?_ ?_
 rotate_left
 ·intro W hW; go_simp <;> with_reducible rfl
 try simp only [Act.put, putA, putB, putC]
 refine wpG_t (i := 1) (oi := ⟨some 9, .move (.tmp 1), 3, "zq.go:101", #[], none⟩) (v := ?_) ?_ ?_
 rotate_left
 ·intro W hW; go_simp <;> with_reducible rfl
 try simp only [Act.put, putA, putB, putC]
 refine wpG_t (i := 4) (oi := ⟨some 12, .move (.tmp 0), 3, "zq.go:101", #[], none⟩) (v := ?_) ?_ ?_
 rotate_left
 ·intro W hW; go_simp <;> with_reducible rfl
 try simp only [Act.put, putA, putB, putC]
 refine wpG_t (i := 5) (oi := ⟨some 13, .binOp .shl 3 (.const (.int .i64 1)) (.tmp 12) 3, 3, "zq.go:101", #[⟨4, .data⟩], none⟩) (v := ?_) ?_ ?_
 rotate_left
 ·intro W hW; go_simp <;> with_reducible rfl
 try simp only [Act.put, putA, putB, putC]
 refine wpG_t (i := 7) (oi := ⟨some 15, .move (.tmp 0), 3, "zq.go:101", #[], none⟩) (v := ?_) ?_ ?_
 rotate_left
 ·intro W hW; go_simp <;> with_reducible rfl
 try simp only [Act.put, putA, putB, putC]
 refine wpG_t (i := 8) (oi := ⟨some 16, .binOp .add 3 (.tmp 15) (.const (.int .i64 1)) 3, 3, "zq.go:101", #[⟨7, .data⟩], none⟩) (v := ?_) ?_ ?_
 rotate_left
 ·intro W hW; go_simp <;> with_reducible rfl
 try simp only [Act.put, putA, putB, putC]
 refine wpG_do (i := 2) (o := ⟨some 10, .call { callee := .value (.func 146), args := #[.tmp 8, .tmp 9], argTypes := #[3, 3] }, 3, "zq.go:101", #[⟨0, .data⟩, ⟨1, .data⟩], none⟩) (by kernel_rfl) rfl (by rfl) fun K hK => ?_
 go_simp
 refine (T1.out _).mono ?_
 rintro e w3 ⟨rfl, rfl⟩
 refine hK.out _ _ (Below.refl _ _) ?_
 clear hK K
 try simp only [Act.put, putA, putB, putC]
 refine wpG_t (i := 3) (oi := ⟨some 11, .binOp .mul 3 (.const (.int .i64 6658)) (.tmp 10) 3, 3, "zq.go:101", #[⟨2, .data⟩], none⟩) (v := ?_) ?_ ?_
 rotate_left
 ·intro W hW; go_simp <;> with_reducible rfl
 try simp only [Act.put, putA, putB, putC]
 refine wpG_t (i := 6) (oi := ⟨some 14, .binOp .add 3 (.tmp 11) (.tmp 13) 3, 3, "zq.go:101", #[⟨3, .data⟩, ⟨5, .data⟩], none⟩) (v := ?_) ?_ ?_
 rotate_left
 ·intro W hW; go_simp <;> with_reducible rfl
 try simp only [Act.put, putA, putB, putC]
 refine wpG_t (i := 9) (oi := ⟨some 17, .binOp .shr 3 (.tmp 14) (.tmp 16) 3, 3, "zq.go:101", #[⟨6, .data⟩, ⟨8, .data⟩], none⟩) (v := ?_) ?_ ?_
 rotate_left
 ·intro W hW; go_simp <;> with_reducible rfl
 try simp only [Act.put, putA, putB, putC]
 refine wpG_t (i := 10) (oi := ⟨some 4, .assign (.tmp 17), 3, "zq.go:101", #[⟨9, .data⟩, ⟨2, .chain⟩, ⟨0, .phase⟩, ⟨1, .phase⟩, ⟨2, .phase⟩, ⟨3, .phase⟩, ⟨4, .phase⟩, ⟨5, .phase⟩, ⟨6, .phase⟩, ⟨7, .phase⟩, ⟨8, .phase⟩, ⟨9, .phase⟩], none⟩) (v := ?_) ?_ ?_
 rotate_left
 ·intro W hW; go_simp <;> with_reducible rfl
 try simp only [Act.put, putA, putB, putC]
 refine wpG_done (by kernel_rfl) ?_
 go_wp2
 go_ret
 exact ⟨rfl, (Below.refl _ _).drew⟩
def p17L : List Nat := [17, 289, 296, 1062, 2642, 2580, 1729]
def PwT (w : World) : Prop := ∀ i, i < 7 → w.cell? ⟨0, i, none⟩ = some (.int .i64 ((p17L.getD i 0 : Nat) : Int))
theorem PwT.kept {w w' : World} (h : PwT w) (hb : Below w.heap.size w w') : PwT w' := fun i hi => by
 rw [hb.cell (p := ⟨0, i, none⟩) (World.block_lt_of_cell? w _ (h i hi))]
 exact h i hi
theorem p17_lt : ∀ i, i < 7 → p17L.getD i 0 < 3329 := by decide
def zP (m : Nat) : Nat → Nat
 | 0 => 1
 | j + 1 => if m / 2 ^ j % 2 = 1 then zP m j * p17L.getD (6 - j) 0 % 3329 else zP m j
theorem zP_all : allB (fun m => zP m 7 == 17 ^ tnJ m 7 % 3329) 128 = true := by decide +kernel
theorem zP_seven (m : Nat) (h : m < 128) : zP m 7 = 17 ^ tnJ m 7 % 3329 := by
 have := allB_at zP_all m h
 simpa using this
theorem bit_of (i : Int) (j : Nat) (h : j < 7) : i / 2 ^ j % 2 = ((twZ 7 i / 2 ^ j % 2 : Nat) : Int) := by
 unfold twZ
 match j, h with
 | 0, _ => omega
 | 1, _ => omega
 | 2, _ => omega
 | 3, _ => omega
 | 4, _ => omega
 | 5, _ => omega
 | 6, _ => omega
theorem and_bit (y : Int) (h : In64 y) : bits .and .i64 y 1 = y % 2 := by
 have h1 := and_low 1 (by decide) y h
 rw [show ((twZ 1 y : Nat) : Int) = y % 2 by unfold twZ; omega] at h1
 exact h1
theorem div_in (i : Int) (j : Nat) (h : j < 7) (hi : In64 i) : In64 (i / 2 ^ j) := by
 match j, h with
 | 0, _ => constructor <;> omega
 | 1, _ => constructor <;> omega
 | 2, _ => constructor <;> omega
 | 3, _ => constructor <;> omega
 | 4, _ => constructor <;> omega
 | 5, _ => constructor <;> omega
 | 6, _ => constructor <;> omega

set_option maxRecDepth 100000 in
set_option maxHeartbeats 1000000 in
theorem zzeta_any (i : Int) (hi : In64 i) (w : World) (hT : PwT w) :
  Calls Tryz.prog 85 #[.int .i64 i] w fun e w' => e = .returned (.int .i64 ((17 ^ tnJ (twZ 7 i) 7 % 3329 : Nat) : Int)) ∧ w' = w := by
 obtain ⟨Z, hZ⟩ : ∃ Z : Nat, Z = 17 ^ tnJ (twZ 7 i) 7 % 3329 := ⟨_, rfl⟩
 rw [← hZ]
 have HZ : Hid (Z = zP (twZ 7 i) 7) := by
  show _ = _
  rw [hZ, zP_seven _ (twZ_lt 7 i)]
 have HT : Hid _ := hT
 have HI : Hid _ := hi
 clear hZ hT hi
 go_enter Tryz.func85, Tryz.ntmps85
 go_wp2_with fail
 go_loop [3, 5] (fun ov jv => ∃ j o : Nat, j ≤ 7 ∧ ov = .int .i64 (o : Int) ∧ Hid (o = zP (twZ 7 i) j) ∧ o < 3329 ∧ jv = .int .i64 (j : Int)) (fun _ jv => 7 - (intOf jv).toNat)
 case atStart => exact ⟨0, 1, by omega, rfl, rfl, by omega, rfl⟩
 case round =>
  obtain ⟨j, o, hj, rfl, HO, ho, rfl⟩ := hrel
  by_cases hl : j < 7
  ·have hd : decide ((j : Int) < 7) = true := decide_eq_true (by omega)
   have hjI : (j : Int) < 7 := by omega
   have hj0 : ¬ (j : Int) < 0 := by omega
   have b1 := bit_of i j hl
   have b2 := and_bit (i / 2 ^ j) (div_in i j hl HI.out)
   rw [b1] at b2
   have hbl : twZ 7 i / 2 ^ j % 2 < 2 := Nat.mod_lt _ (by decide)
   by_cases hb : twZ 7 i / 2 ^ j % 2 = 1
   ·have HN : Hid (zP (twZ 7 i) (j + 1) = o * p17L.getD (6 - j) 0 % 3329) := by
     show _ = _
     rw [HO.out, zP, if_pos hb]
    rw [hb] at b2
    obtain ⟨k, hk⟩ : ∃ k : Nat, k = 6 - j := ⟨_, rfl⟩
    have hc := HT.out k (by omega)
    have hy := p17_lt k (by omega)
    have ek : 6 - (j : Int) = (k : Int) := by omega
    have hk7 : k < 7 := by omega
    have hkI : (k : Int) < 7 := by omega
    rw [← hk] at HN
    generalize p17L.getD k 0 = y at hc hy HN
    have HM : Hid (rsZ ((o : Int) * (y : Int)) = zP (twZ 7 i) (j + 1)) := by
     show _ = _
     rw [HN.out, ← Int.natCast_mul, rsZ_nat]
    clear HN hk hb b1 hbl
    go_wp2_with fail
    refine (zmul_any (o : Int) (y : Int) ⟨by omega, by omega⟩ ⟨by omega, by omega⟩ _).mono ?_
    rintro e w1 ⟨rfl, rfl⟩
    have hb1 := rsZ_lt ((o : Int) * (y : Int))
    generalize rsZ ((o : Int) * (y : Int)) = p at HM hb1
    clear hc
    go_wp2
    go_round
    case rel => exact ⟨j + 1, p, by omega, rfl, HM, hb1, by go_num⟩
    case measure => simp [intOf] <;> omega
   ·have hb0 : twZ 7 i / 2 ^ j % 2 = 0 := by omega
    have HN : Hid (o = zP (twZ 7 i) (j + 1)) := by
     show _ = _
     rw [HO.out, zP, if_neg hb]
    rw [hb0] at b2
    clear hb hb0 b1 hbl
    go_wp2
    go_round
    case rel => exact ⟨j + 1, o, by omega, rfl, HN, ho, by go_num⟩
    case measure => simp [intOf] <;> omega
  ·have hje : j = 7 := by omega
   have hd : decide ((j : Int) < 7) = false := decide_eq_false (by omega)
   have hjI : (7 : Int) ≤ (j : Int) := by omega
   have HN2 : Hid (o = Z) := by show _ = _; rw [HZ.out, HO.out, hje]
   clear hje HO
   go_wp2
   go_ret
   exact ⟨retZ (by rw [HN2.out]), rfl⟩
end Go.Proofs.YtmhbjaampobcbaaGreatDoor
