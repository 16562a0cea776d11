/- What package zq's rounding and spreading answer: contracts, third part. -/
import Derived.Test.YtlcnepnappfjeaaDoorZ10a
import Derived.Test.YtlcnepnappfjeaaDoorRef10b
import Derived.Test.YtlcnepnappfjeaaDoorBase
namespace Go.Proofs.YtlcnepnappfjeaaDoor
open Go.ChangeShapes Go.WideShapes Go.ChangeAt Go.RowKit
set_option linter.unusedSimpArgs false
set_option linter.unusedVariables false

theorem zrounds_in (d : Int) (h1 : 1 ≤ d) (h2 : d ≤ 11) (w : World) :
    Calls Tryd.prog 58 #[.int .i64 d] w fun e w' => e = .returned (.bool true) ∧ w' = w := by
  have d1 : decide (1 ≤ d) = true := decide_eq_true h1
  have d2 : decide (d ≤ 11) = true := decide_eq_true h2
  go_enter Tryd.func58, Tryd.ntmps58
  go_wp2
  go_ret
  exact ⟨rfl, rfl⟩

theorem zrounds_out (d : Int) (h : d < 1 ∨ 11 < d) (w : World) :
    Calls Tryd.prog 58 #[.int .i64 d] w fun e w' => e = .returned (.bool false) ∧ w' = w := by
  by_cases h1 : 1 ≤ d
  · have h2 : ¬ d ≤ 11 := by omega
    have h3 : 11 < d := by omega
    have d1 : decide (1 ≤ d) = true := decide_eq_true h1
    have d2 : decide (d ≤ 11) = false := decide_eq_false h2
    clear h
    go_enter Tryd.func58, Tryd.ntmps58
    go_wp2
    go_ret
    exact ⟨rfl, rfl⟩
  · have d1 : decide (1 ≤ d) = false := decide_eq_false h1
    clear h
    go_enter Tryd.func58, Tryd.ntmps58
    go_wp2
    go_ret
    exact ⟨rfl, rfl⟩

set_option maxHeartbeats 1000000 in
theorem zlowest_any (d : Nat) (D x : Int) (hD : D = (d : Int)) (h2 : d ≤ 12) (hx : In64 x) (w : World) :
    Calls Tryd.prog 59 #[.int .i64 D, .int .i64 x] w fun e w' => e = .returned (.int .i64 ((twZ d x : Nat) : Int)) ∧ w' = w := by
  subst hD
  have HA : Hid _ := and_low d (by omega) x hx
  obtain ⟨t1, t2⟩ := two_le h2
  obtain ⟨T, hT⟩ : ∃ T : Nat, T = 2 ^ d := ⟨_, rfl⟩
  rw [← hT] at HA t1 t2
  have e1 : (2 : Int) ^ d = (T : Int) := by rw [hT]; push_cast; rfl
  have HT : Hid _ := hT
  clear hT
  have e2 : ((T - 1 : Nat) : Int) = (T : Int) - 1 := by omega
  rw [e2] at HA
  have a1 := HA.out
  clear e2
  go_enter Tryd.func59, Tryd.ntmps59
  go_wp2
  go_ret
  exact ⟨rfl, rfl⟩

set_option maxHeartbeats 1000000 in
theorem zcomp_out (d x : Int) (h : d < 1 ∨ 11 < d) (w : World) :
    Calls Tryd.prog 44 #[.int .i64 d, .int .i64 x] w fun e w' => e = .returned (.int .i64 0) ∧ w' = w := by
  go_enter Tryd.func44, Tryd.ntmps44
  go_wp2_with fail
  refine (zrounds_out d h _).mono ?_
  rintro e w1 ⟨rfl, rfl⟩
  go_wp2
  go_ret
  exact ⟨rfl, rfl⟩

set_option maxHeartbeats 1000000 in
theorem zdeco_out (d x : Int) (h : d < 1 ∨ 11 < d) (w : World) :
    Calls Tryd.prog 46 #[.int .i64 d, .int .i64 x] w fun e w' => e = .returned (.int .i64 0) ∧ w' = w := by
  go_enter Tryd.func46, Tryd.ntmps46
  go_wp2_with fail
  refine (zrounds_out d h _).mono ?_
  rintro e w1 ⟨rfl, rfl⟩
  go_wp2
  go_ret
  exact ⟨rfl, rfl⟩

set_option maxHeartbeats 1000000 in
theorem zcomp_any (d : Nat) (D x : Int) (hD : D = (d : Int)) (h1 : 1 ≤ d) (h2 : d ≤ 11) (hx : In64 x) (w : World) :
    Calls Tryd.prog 44 #[.int .i64 D, .int .i64 x] w fun e w' => e = .returned (.int .i64 ((cpZ d x : Nat) : Int)) ∧ w' = w := by
  subst hD
  have hr := rsZ_lt x
  obtain ⟨t3, t4⟩ := two_le (d := d + 1) (by omega)
  obtain ⟨q, hq⟩ : ∃ q : Nat, q = (2 ^ (d + 1) * rsZ x + 3329) / 6658 := ⟨_, rfl⟩
  have HF : Hid (cpZ d x = twZ d (q : Int)) := by
    show _ = _
    unfold cpZ twZ
    rw [← hq, ← Int.natCast_emod, Int.toNat_natCast]
  go_enter Tryd.func44, Tryd.ntmps44
  go_wp2_with fail
  refine (zrounds_in d (by omega) (by omega) _).mono ?_
  rintro e w1 ⟨rfl, rfl⟩
  go_wp2_with fail
  refine (zmod_any x hx _).mono ?_
  rintro e w2 ⟨rfl, rfl⟩
  generalize rsZ x = r at hr hq
  obtain ⟨k, hk⟩ : ∃ k : Nat, k = d + 1 := ⟨_, rfl⟩
  rw [← hk] at hq t3 t4
  have ek : (d : Int) + 1 = (k : Int) := by omega
  have hkb : k ≤ 12 := by omega
  obtain ⟨S, hS⟩ : ∃ S : Nat, S = 2 ^ k := ⟨_, rfl⟩
  have eS : (2 : Int) ^ k = (S : Int) := by rw [hS]; push_cast; rfl
  rw [← hS] at hq t3 t4
  obtain ⟨p, hp⟩ : ∃ p : Nat, p = S * r := ⟨_, rfl⟩
  rw [← hp] at hq
  have hpb : p ≤ 4096 * 3329 := by rw [hp]; exact Nat.mul_le_mul t4 (by omega)
  have e1 : (r : Int) * (S : Int) = (p : Int) := by rw [hp, Int.natCast_mul, Int.mul_comm]
  have e2 : ((p : Int) + 3329) / 6658 = (q : Int) := by omega
  have hqb : q ≤ 4096 := by omega
  clear hp hq hS hx hk
  go_wp2_with fail
  refine (zlowest_any d _ (q : Int) rfl (by omega) ⟨by omega, by omega⟩ _).mono ?_
  rintro e w3 ⟨rfl, rfl⟩
  go_wp2
  go_ret
  exact ⟨retZ (by rw [HF.out]), rfl⟩

set_option maxHeartbeats 1000000 in
theorem zdeco_any (d : Nat) (D y : Int) (hD : D = (d : Int)) (h1 : 1 ≤ d) (h2 : d ≤ 11) (hy : In64 y) (w : World) :
    Calls Tryd.prog 46 #[.int .i64 D, .int .i64 y] w fun e w' => e = .returned (.int .i64 ((dcZ d y : Nat) : Int)) ∧ Below w.heap.size w w' := by
  subst hD
  obtain ⟨t1, t2⟩ := two_le (d := d) (by omega)
  obtain ⟨t3, t4⟩ := two_le (d := d + 1) (by omega)
  have hs := twZ_lt d y
  obtain ⟨Z, hZ⟩ : ∃ Z : Nat, Z = dcZ d y := ⟨_, rfl⟩
  have HZ : Hid (Z = (6658 * twZ d y + 2 ^ d) / 2 ^ (d + 1)) := hZ
  rw [← hZ]
  have T1 : Hid (∀ w : World, Calls Tryd.prog 59 #[.int .i64 (d : Int), .int .i64 y] w fun e w' => e = .returned (.int .i64 ((twZ d y : Nat) : Int)) ∧ w' = w) := fun w => zlowest_any d _ y rfl (by omega) hy w
  generalize twZ d y = s at hs HZ T1
  obtain ⟨k, hk⟩ : ∃ k : Nat, k = d + 1 := ⟨_, rfl⟩
  rw [← hk] at HZ t3 t4
  have ek : (d : Int) + 1 = (k : Int) := by omega
  obtain ⟨T, hT⟩ : ∃ T : Nat, T = 2 ^ d := ⟨_, rfl⟩
  have eT : (2 : Int) ^ d = (T : Int) := by rw [hT]; push_cast; rfl
  obtain ⟨S, hS⟩ : ∃ S : Nat, S = 2 ^ k := ⟨_, rfl⟩
  have eS : (2 : Int) ^ k = (S : Int) := by rw [hS]; push_cast; rfl
  rw [← hS] at HZ t3 t4
  rw [← hT] at HZ t1 t2 hs
  obtain ⟨p, hp⟩ : ∃ p : Nat, p = 6658 * s + T := ⟨_, rfl⟩
  have hpb : p ≤ 30000000 := by omega
  rw [← hp] at HZ
  have e5 : 6658 * (s : Int) + (T : Int) = (p : Int) := by omega
  have e4 : (p : Int) / (S : Int) = (Z : Int) := by rw [HZ.out, Int.natCast_ediv]
  have hZb : Z ≤ p := by rw [HZ.out]; exact Nat.div_le_self _ _
  have w1 : IntKind.i64.wrap (6658 * (s : Int)) = 6658 * (s : Int) := IntWalk.i64_in _ (by constructor <;> omega)
  have w2 : IntKind.i64.wrap (T : Int) = (T : Int) := IntWalk.i64_in _ (by constructor <;> omega)
  have w3 : IntKind.i64.wrap (k : Int) = (k : Int) := IntWalk.i64_in _ (by constructor <;> omega)
  have w4 : IntKind.i64.wrap (p : Int) = (p : Int) := IntWalk.i64_in _ (by constructor <;> omega)
  have w5 : IntKind.i64.wrap (Z : Int) = (Z : Int) := IntWalk.i64_in _ (by constructor <;> omega)
  have hk0 : ¬ (k : Int) < 0 := by omega
  have hd0 : ¬ (d : Int) < 0 := by omega
  have hkn : ((k : Int)).toNat = k := by omega
  clear hZ hp hS hT hk hy HZ
  go_enter Tryd.func46, Tryd.ntmps46
  go_wp2_with fail
  refine (zrounds_in d (by omega) (by omega) _).mono ?_
  rintro e w1 ⟨rfl, rfl⟩
  go_wp2_with fail
  refine wpG_begin (by kernel_rfl) ?_
  refine wpG_take (i := 0) (oi := { dst := some 8, op := Op.move (Operand.tmp 0), type := 3, pos := "zq.go:101", after := #[], guard := none }) (v := ?_) rfl (by kernel_rfl) (by kernel_rfl) (by kernel_rfl) (by rfl) ?_ ?_
  rotate_left
  · intro W hW; first | (go_simp; done) | (go_simp; with_reducible rfl)
  try simp only [Act.put, List.setIfInBounds_toArray, List.set_cons_zero, List.set_cons_succ]
  refine wpG_take (i := 1) (oi := { dst := some 9, op := Op.move (Operand.tmp 1), type := 3, pos := "zq.go:101", after := #[], guard := none }) (v := ?_) rfl (by kernel_rfl) (by kernel_rfl) (by kernel_rfl) (by rfl) ?_ ?_
  rotate_left
  · intro W hW; first | (go_simp; done) | (go_simp; with_reducible rfl)
  try simp only [Act.put, List.setIfInBounds_toArray, List.set_cons_zero, List.set_cons_succ]
  refine wpG_take (i := 4) (oi := { dst := some 12, op := Op.move (Operand.tmp 0), type := 3, pos := "zq.go:101", after := #[], guard := none }) (v := ?_) rfl (by kernel_rfl) (by kernel_rfl) (by kernel_rfl) (by rfl) ?_ ?_
  rotate_left
  · intro W hW; first | (go_simp; done) | (go_simp; with_reducible rfl)
  try simp only [Act.put, List.setIfInBounds_toArray, List.set_cons_zero, List.set_cons_succ]
  refine wpG_take (i := 5) (oi := { dst := some 13, op := Op.binOp BinOp.shl 3 (Operand.const (Value.int IntKind.i64 1)) (Operand.tmp 12) 3, type := 3, pos := "zq.go:101", after := #[{ on := 4, ground := Ground.data }], guard := none }) (v := ?_) rfl (by kernel_rfl) (by kernel_rfl) (by kernel_rfl) (by rfl) ?_ ?_
  rotate_left
  · intro W hW; first | (go_simp; done) | (go_simp; with_reducible rfl)
  try simp only [Act.put, List.setIfInBounds_toArray, List.set_cons_zero, List.set_cons_succ]
  refine wpG_take (i := 7) (oi := { dst := some 15, op := Op.move (Operand.tmp 0), type := 3, pos := "zq.go:101", after := #[], guard := none }) (v := ?_) rfl (by kernel_rfl) (by kernel_rfl) (by kernel_rfl) (by rfl) ?_ ?_
  rotate_left
  · intro W hW; first | (go_simp; done) | (go_simp; with_reducible rfl)
  try simp only [Act.put, List.setIfInBounds_toArray, List.set_cons_zero, List.set_cons_succ]
  refine wpG_take (i := 8) (oi := { dst := some 16, op := Op.binOp BinOp.add 3 (Operand.tmp 15) (Operand.const (Value.int IntKind.i64 1)) 3, type := 3, pos := "zq.go:101", after := #[{ on := 7, ground := Ground.data }], guard := none }) (v := ?_) rfl (by kernel_rfl) (by kernel_rfl) (by kernel_rfl) (by rfl) ?_ ?_
  rotate_left
  · intro W hW; first | (go_simp; done) | (go_simp; with_reducible rfl)
  try simp only [Act.put, List.setIfInBounds_toArray, List.set_cons_zero, List.set_cons_succ]
  refine wpG_do (i := 2) (o := { dst := some 10, op := Op.call { callee := Callee.value (Operand.func 59), args := #[Operand.tmp 8, Operand.tmp 9], argTypes := #[3, 3] }, type := 3, pos := "zq.go:101", after := #[{ on := 0, ground := Ground.data }, { on := 1, ground := Ground.data }], guard := none }) (by kernel_rfl) rfl (by rfl) fun K hK => ?_
  go_simp
  refine (T1.out _).mono ?_
  rintro e w3 ⟨rfl, rfl⟩
  refine hK.out _ _ (Below.refl _ _) ?_
  clear hK K
  try simp only [Act.put, List.setIfInBounds_toArray, List.set_cons_zero, List.set_cons_succ]
  refine wpG_take (i := 3) (oi := { dst := some 11, op := Op.binOp BinOp.mul 3 (Operand.const (Value.int IntKind.i64 6658)) (Operand.tmp 10) 3, type := 3, pos := "zq.go:101", after := #[{ on := 2, ground := Ground.data }], guard := none }) (v := ?_) rfl (by kernel_rfl) (by kernel_rfl) (by kernel_rfl) (by rfl) ?_ ?_
  rotate_left
  · intro W hW; first | (go_simp; done) | (go_simp; with_reducible rfl)
  try simp only [Act.put, List.setIfInBounds_toArray, List.set_cons_zero, List.set_cons_succ]
  refine wpG_take (i := 6) (oi := { dst := some 14, op := Op.binOp BinOp.add 3 (Operand.tmp 11) (Operand.tmp 13) 3, type := 3, pos := "zq.go:101", after := #[{ on := 3, ground := Ground.data }, { on := 5, ground := Ground.data }], guard := none }) (v := ?_) rfl (by kernel_rfl) (by kernel_rfl) (by kernel_rfl) (by rfl) ?_ ?_
  rotate_left
  · intro W hW; first | (go_simp; done) | (go_simp; with_reducible rfl)
  try simp only [Act.put, List.setIfInBounds_toArray, List.set_cons_zero, List.set_cons_succ]
  refine wpG_take (i := 9) (oi := { dst := some 17, op := Op.binOp BinOp.shr 3 (Operand.tmp 14) (Operand.tmp 16) 3, type := 3, pos := "zq.go:101", after := #[{ on := 6, ground := Ground.data }, { on := 8, ground := Ground.data }], guard := none }) (v := ?_) rfl (by kernel_rfl) (by kernel_rfl) (by kernel_rfl) (by rfl) ?_ ?_
  rotate_left
  · intro W hW; first | (go_simp; done) | (go_simp; with_reducible rfl)
  try simp only [Act.put, List.setIfInBounds_toArray, List.set_cons_zero, List.set_cons_succ]
  refine wpG_take (i := 10) (oi := { dst := some 4, op := Op.assign (Operand.tmp 17), type := 3, pos := "zq.go:101", after := #[{ on := 9, ground := Ground.data }, { on := 2, ground := Ground.chain }, { on := 0, ground := Ground.phase }, { on := 1, ground := Ground.phase }, { on := 2, ground := Ground.phase }, { on := 3, ground := Ground.phase }, { on := 4, ground := Ground.phase }, { on := 5, ground := Ground.phase }, { on := 6, ground := Ground.phase }, { on := 7, ground := Ground.phase }, { on := 8, ground := Ground.phase }, { on := 9, ground := Ground.phase }], guard := none }) (v := ?_) rfl (by kernel_rfl) (by kernel_rfl) (by kernel_rfl) (by rfl) ?_ ?_
  rotate_left
  · intro W hW; first | (go_simp; done) | (go_simp; with_reducible rfl)
  try simp only [Act.put, List.setIfInBounds_toArray, List.set_cons_zero, List.set_cons_succ]
  refine wpG_done (by kernel_rfl) ?_
  go_wp2
  go_ret
  exact ⟨rfl, (Below.refl _ _).drew⟩
end Go.Proofs.YtlcnepnappfjeaaDoor
