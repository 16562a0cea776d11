/- What squares, many squares, and small multiples answer: contracts of package field, fifth part. -/
import Derived.Test.YthokfcmnijpkhabF05d
namespace Go.Proofs.Ythokfcmnijpkhab
open Go.ChangeShapes Go.WideShapes Go.ChangeAt Go.RowKit
set_option linter.unusedSimpArgs false
set_option linter.unusedVariables false

set_option maxRecDepth 100000 in
set_option maxHeartbeats 2000000 in
theorem fsquare_any (A : Array Value) (a : List Nat) (ha : El4 a) (hA : A = ((nI a).map (Value.int .u64)).toArray) (w : World) :
    Calls Try.prog 31 #[.agg A] w fun e w' => ∃ r : List Nat, e = .returned (elV r) ∧ El4 r ∧ wv r % pN = wv a * wv a % pN ∧ Below w.heap.size w w' := by
  go_enter Try.func31, Try.ntmps31
  go_wp2_with (refine wpList_box_row (k := .u64) rfl 33 _ rfl (nI a) (by rw [← hA]; rfl) ha.ne (elMax ha) ?_)
  intro w1 r1 b1 s1
  rw [ha.len] at r1
  go_wp2_with (refine wpList_alloc_row (k := .u64) rfl 33 rfl (nI z4) (alloc_el _) z4_el.ne (elMax z4_el) ?_)
  intro w2 r2 b2 s2
  rw [z4_el.len] at r2
  replace r1 := r1.kept b2
  have hbw := stepB b1 b2
  have n1 : w.heap.size < w1.heap.size := by have := s1.out; omega
  clear b1 b2 s1 s2
  go_wp2_with (refine wpList_load_row rfl 33 _ rfl rfl r1 _ Try.underlying33 rfl (elInfo ha) ?_)
  refine (fmul_any _ _ a a ha ha rfl rfl _).mono ?_
  rintro e w3 ⟨x, rfl, hx, he, b3⟩
  have HE : Hid _ := he
  replace r2 := r2.kept b3
  replace hbw := stepB hbw b3
  clear he b3 r1
  go_wp2_with (refine wpList_store_row rfl 33 _ _ rfl (nI x) rfl rfl r2 (by rw [z4_el.len, hx.len]) (elInfo z4_el) ?_; intro w4 r4 hw4)
  refine bodyPost_row (p := 2) (ty := 33) rfl rfl rfl r4 Try.underlying33 rfl (elInfo hx) ?_
  exact ⟨x, rfl, hx, HE.out, hw4.below _ _ (by omega) hbw⟩

set_option maxRecDepth 100000 in
set_option maxHeartbeats 2000000 in
theorem squares_any (A : Array Value) (a : List Nat) (n : Nat) (N : Int) (ha : El4 a) (hn : n < 1000000) (hA : A = ((nI a).map (Value.int .u64)).toArray) (hN : N = (n : Int)) (w : World) :
    Calls Try.prog 36 #[.agg A, .int .i64 N] w fun e w' => ∃ r : List Nat, e = .returned (elV r) ∧ El4 r ∧ wv r % pN = wv a ^ 2 ^ n % pN ∧ Below w.heap.size w w' := by
  subst hN
  go_enter Try.func36, Try.ntmps36
  go_wp2_with (refine wpList_box_row (k := .u64) rfl 33 _ rfl (nI a) (by rw [← hA]; rfl) ha.ne (elMax ha) ?_)
  intro w1 r1 b1 s1
  rw [ha.len] at r1
  go_wp2_with (refine wpList_alloc_row (k := .u64) rfl 33 rfl (nI z4) (alloc_el _) z4_el.ne (elMax z4_el) ?_)
  intro w2 r2 b2 s2
  rw [z4_el.len] at r2
  replace r1 := r1.kept b2
  have hbw := stepB b1 b2
  have n1 : w.heap.size < w1.heap.size := by have := s1.out; omega
  have HA : Hid (El4 a) := ha
  clear b1 b2 s1 s2 hA ha
  go_wp2
  go_loopw [6] (fun iv wx => ∃ (i : Nat) (cur : List Nat), i ≤ n ∧ iv = .int .i64 (i : Int) ∧ Hid (El4 cur) ∧ Hid (wv cur % pN = wv a ^ 2 ^ i % pN) ∧ RowAt .u64 33 w.heap.size 4 (nI cur) wx ∧ RowAt .u64 33 w1.heap.size 4 (nI z4) wx ∧ Below w.heap.size w wx) (fun iv _ => n - (intOf iv).toNat)
  case atStart => exact ⟨0, a, by omega, rfl, HA, (by show _ = _; rw [Nat.pow_zero, Nat.pow_one]), r1, r2, hbw⟩
  case round =>
    obtain ⟨i, cur, hi, rfl, HC, HE, ra, rz, hbx⟩ := hrel
    clear r1 r2 hbw
    have hC := HC.out
    by_cases hlt : i < n
    · have hd : decide ((i : Int) < (n : Int)) = true := decide_eq_true (by omega)
      have hiI : (i : Int) < (n : Int) := by omega
      go_wp2_with (refine wpList_load_row rfl 33 _ rfl rfl ra _ Try.underlying33 rfl (elInfo hC) ?_)
      refine (fsquare_any _ cur hC rfl _).mono ?_
      rintro e w3 ⟨x, rfl, hx, he, b3⟩
      have HE2 : Hid (wv x % pN = wv a ^ 2 ^ (i + 1) % pN) := sq_step _ _ _ _ HE.out he
      have HX : Hid (El4 x) := hx
      replace ra := ra.kept b3
      replace rz := rz.kept b3
      replace hbx := stepB hbx b3
      clear he b3 HE
      go_wp2_with (refine wpList_store_row rfl 33 _ _ rfl (nI x) rfl rfl ra (by rw [hC.len, hx.len]) (elInfo hC) ?_)
      intro w4 r4 hw4
      replace rz := rz.wrote hw4 (by omega)
      replace hbx := hw4.below _ _ (Nat.le_refl _) hbx
      clear ra hw4 hC hx
      go_wp2
      go_roundw
      case rel => exact ⟨i + 1, x, by omega, by go_num, HX, HE2, r4, rz, hbx⟩
      case measure => simp [intOf] <;> omega
    · have hie : i = n := by omega
      have hd : decide ((i : Int) < (n : Int)) = false := decide_eq_false (by omega)
      have hiI : (n : Int) ≤ (i : Int) := by omega
      have HE2 : Hid (wv cur % pN = wv a ^ 2 ^ n % pN) := by
        have := HE.out
        rw [hie] at this
        exact this
      clear HE hie
      go_wp2_with (first | refine wpList_load_row rfl 33 _ rfl rfl ra _ Try.underlying33 rfl (elInfo hC) ?_ | (refine wpList_store_row rfl 33 _ _ rfl (nI cur) rfl rfl rz (by rw [z4_el.len, hC.len]) (elInfo z4_el) ?_; intro w4 r4 hw4))
      refine bodyPost_row (p := 4) (ty := 33) rfl rfl rfl r4 Try.underlying33 rfl (elInfo hC) ?_
      exact ⟨cur, rfl, hC, HE2.out, hw4.below _ _ (by omega) hbx⟩

set_option maxRecDepth 100000 in
set_option maxHeartbeats 2000000 in
theorem ftimes_any (A : Array Value) (a : List Nat) (n : Nat) (N : Int) (ha : El4 a) (hn : n < 4294967296) (hA : A = ((nI a).map (Value.int .u64)).toArray) (hN : N = (n : Int)) (w : World) :
    Calls Try.prog 34 #[.agg A, .int .u32 N] w fun e w' => ∃ r : List Nat, e = .returned (elV r) ∧ El4 r ∧ wv r % pN = n * wv a % pN ∧ Below w.heap.size w w' := by
  subst hN
  have hw0 : IntKind.u64.wrap (n : Int) = (n : Int) := wrapN n (by omega)
  go_enter Try.func34, Try.ntmps34
  go_wp2_with (refine wpList_box_row (k := .u64) rfl 33 _ rfl (nI a) (by rw [← hA]; rfl) ha.ne (elMax ha) ?_)
  intro w1 r1 b1 s1
  rw [ha.len] at r1
  go_wp2_with (refine wpList_alloc_row (k := .u64) rfl 33 rfl (nI z4) (alloc_el _) z4_el.ne (elMax z4_el) ?_)
  intro w2 r2 b2 s2
  rw [z4_el.len] at r2
  replace r1 := r1.kept b2
  have hbw := stepB b1 b2
  have n1 : w.heap.size < w1.heap.size := by have := s1.out; omega
  clear b1 b2 s1 s2 hA
  go_wp2_with (refine wpList_load_row rfl 33 _ rfl rfl r1 _ Try.underlying33 rfl (elInfo ha) ?_)
  refine (addTimes_any _ _ z4 a n _ z4_el ha (by omega) rfl rfl rfl _).mono ?_
  rintro e w3 ⟨x1, c1, rfl, hx1, hc1, he1, b3⟩
  have HE1 : Hid _ := he1
  replace r2 := r2.kept b3
  replace hbw := stepB hbw b3
  clear he1 b3 r1
  go_wp2_with fail
  refine (fold_any _ x1 c1 _ hx1 hc1 rfl rfl _).mono ?_
  rintro e w5 ⟨x2, rfl, hx2, he2, b5⟩
  have HE2 : Hid (wv x2 % pN = n * wv a % pN) := by
    show _ = _
    rw [he2, HE1.out, z4_wv, Nat.zero_add]
  replace r2 := r2.kept b5
  replace hbw := stepB hbw b5
  clear he2 HE1 b5
  go_wp2_with (refine wpList_store_row rfl 33 _ _ rfl (nI x2) rfl rfl r2 (by rw [z4_el.len, hx2.len]) (elInfo z4_el) ?_; intro w7 r7 hw7)
  refine bodyPost_row (p := 4) (ty := 33) rfl rfl rfl r7 Try.underlying33 rfl (elInfo hx2) ?_
  exact ⟨x2, rfl, hx2, HE2.out, hw7.below _ _ (by omega) hbw⟩
end Go.Proofs.Ythokfcmnijpkhab
