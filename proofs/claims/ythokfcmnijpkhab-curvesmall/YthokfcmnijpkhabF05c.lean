/- What sums, differences, turning round, rests and sameness answer: contracts of package field, third part. -/
import Derived.Test.YthokfcmnijpkhabF05b
namespace Go.Proofs.Ythokfcmnijpkhab
open Go.ChangeShapes Go.WideShapes Go.ChangeAt Go.RowKit
set_option linter.unusedSimpArgs false
set_option linter.unusedVariables false

set_option maxRecDepth 100000 in
set_option maxHeartbeats 2000000 in
theorem fadd_any (A B : Array Value) (a b : List Nat) (ha : El4 a) (hb : El4 b) (hA : A = ((nI a).map (Value.int .u64)).toArray) (hB : B = ((nI b).map (Value.int .u64)).toArray) (w : World) :
    Calls Try.prog 32 #[.agg A, .agg B] w fun e w' => ∃ r : List Nat, e = .returned (elV r) ∧ El4 r ∧ wv r % pN = (wv a + wv b) % pN ∧ Below w.heap.size w w' := by
  go_enter Try.func32, Try.ntmps32
  go_wp2_with (refine wpList_box_row (k := .u64) rfl 33 _ rfl (nI a) (by rw [← hA]; rfl) ha.ne (elMax ha) ?_)
  intro w1 r1 b1 s1
  rw [ha.len] at r1
  go_wp2_with (refine wpList_box_row (k := .u64) rfl 33 _ rfl (nI b) (by rw [← hB]; rfl) hb.ne (elMax hb) ?_)
  intro w2 r2 b2 s2
  rw [hb.len] at r2
  go_wp2_with (refine wpList_alloc_row (k := .u64) rfl 33 rfl (nI z4) (alloc_el _) z4_el.ne (elMax z4_el) ?_)
  intro w3 r3 b3 s3
  rw [z4_el.len] at r3
  have hr1 := (r1.kept b2).kept b3
  have hr2 := r2.kept b3
  have hbw := stepB (stepB b1 b2) b3
  have n1 : w.heap.size < w1.heap.size := by have := s1.out; omega
  have n2 : w1.heap.size < w2.heap.size := by have := s2.out; omega
  clear r1 r2 b1 b2 b3 s1 s2 s3
  go_wp2_with (first | refine wpList_load_row rfl 33 _ rfl rfl hr1 _ Try.underlying33 rfl (elInfo ha) ?_ | refine wpList_load_row rfl 33 _ rfl rfl hr2 _ Try.underlying33 rfl (elInfo hb) ?_)
  refine (addTimes_any _ _ a b 1 _ ha hb (by decide) rfl rfl rfl _).mono ?_
  rintro e w4 ⟨x1, c1, rfl, hx1, hc1, he1, b4⟩
  have HE1 : Hid _ := he1
  replace r3 := r3.kept b4
  replace hbw := stepB hbw b4
  clear he1 hr1 hr2 b4
  go_wp2_with fail
  refine (fold_any _ x1 c1 _ hx1 hc1 rfl rfl _).mono ?_
  rintro e w5 ⟨x2, rfl, hx2, he2, b5⟩
  have HE2 : Hid (wv x2 % pN = (wv a + wv b) % pN) := by
    show _ = _
    rw [he2, HE1.out, Nat.one_mul]
  replace r3 := r3.kept b5
  replace hbw := stepB hbw b5
  clear he2 HE1 b5
  go_wp2_with (refine wpList_store_row rfl 33 _ _ rfl (nI x2) rfl rfl r3 (by rw [z4_el.len, hx2.len]) (elInfo z4_el) ?_; intro w7 r7 hw7)
  refine bodyPost_row (p := 4) (ty := 33) rfl rfl rfl r7 Try.underlying33 rfl (elInfo hx2) ?_
  exact ⟨x2, rfl, hx2, HE2.out, hw7.below _ _ (by omega) hbw⟩

theorem small4 (n : Nat) (h : n < 18446744073709551616) : El4 [n, 0, 0, 0] := El4.mk4 h (by decide) (by decide) (by decide)

set_option maxRecDepth 100000 in
set_option maxHeartbeats 2000000 in
theorem fsub_any (A B : Array Value) (a b : List Nat) (ha : El4 a) (hb : El4 b) (hA : A = ((nI a).map (Value.int .u64)).toArray) (hB : B = ((nI b).map (Value.int .u64)).toArray) (w : World) :
    Calls Try.prog 33 #[.agg A, .agg B] w fun e w' => ∃ r : List Nat, e = .returned (elV r) ∧ El4 r ∧ (wv r + wv b) % pN = wv a % pN ∧ Below w.heap.size w w' := by
  go_enter Try.func33, Try.ntmps33
  go_wp2_with (refine wpList_box_row (k := .u64) rfl 33 _ rfl (nI a) (by rw [← hA]; rfl) ha.ne (elMax ha) ?_)
  intro w1 r1 b1 s1
  rw [ha.len] at r1
  go_wp2_with (refine wpList_box_row (k := .u64) rfl 33 _ rfl (nI b) (by rw [← hB]; rfl) hb.ne (elMax hb) ?_)
  intro w2 r2 b2 s2
  rw [hb.len] at r2
  go_wp2_with (refine wpList_alloc_row (k := .u64) rfl 33 rfl (nI z4) (alloc_el _) z4_el.ne (elMax z4_el) ?_)
  intro w3 r3 b3 s3
  rw [z4_el.len] at r3
  have hr1 := (r1.kept b2).kept b3
  have hr2 := r2.kept b3
  have hbw := stepB (stepB b1 b2) b3
  have n1 : w.heap.size < w1.heap.size := by have := s1.out; omega
  have n2 : w1.heap.size < w2.heap.size := by have := s2.out; omega
  clear r1 r2 b1 b2 b3 s1 s2 s3
  go_wp2_with (first | refine wpList_load_row rfl 33 _ rfl rfl hr1 _ Try.underlying33 rfl (elInfo ha) ?_ | refine wpList_load_row rfl 33 _ rfl rfl hr2 _ Try.underlying33 rfl (elInfo hb) ?_)
  refine (take_any _ _ a b ha hb rfl rfl _).mono ?_
  rintro e w4 ⟨x1, o1, rfl, hx1, ho1, he1, b4⟩
  have HE1 : Hid _ := he1
  replace hr1 := hr1.kept b4
  replace r3 := r3.kept b4
  replace hbw := stepB hbw b4
  clear he1 hr2 b4
  go_wp2_with (refine wpList_store_row rfl 33 _ _ rfl (nI x1) rfl rfl hr1 (by rw [hx1.len, ha.len]) (elInfo ha) ?_)
  intro w5 ra hw5
  replace r3 := r3.wrote hw5 (by omega)
  replace hbw := hw5.below _ _ (Nat.le_refl _) hbw
  clear hr1 hw5
  obtain ⟨m1, hm1⟩ : ∃ n : Nat, n = 38 * o1 := ⟨_, rfl⟩
  have q1 : IntKind.u64.wrap (38 * (o1 : Int)) = (m1 : Int) := by rw [IntKind.wrap_u64]; omega
  have hq1 := small4 m1 (by omega)
  have HM1 : Hid _ := hm1
  clear hm1
  go_wp2_with (refine wpList_load_row rfl 33 _ rfl rfl ra _ Try.underlying33 rfl (elInfo hx1) ?_)
  refine (take_any _ _ x1 [m1, 0, 0, 0] hx1 hq1 rfl rfl _).mono ?_
  rintro e w6 ⟨x2, o2, rfl, hx2, ho2, he2, b6⟩
  have HE2 : Hid _ := he2
  replace ra := ra.kept b6
  replace r3 := r3.kept b6
  replace hbw := stepB hbw b6
  clear he2 b6 q1 hq1
  go_wp2_with (refine wpList_store_row rfl 33 _ _ rfl (nI x2) rfl rfl ra (by rw [hx1.len, hx2.len]) (elInfo hx1) ?_)
  intro w7 ra7 hw7
  replace r3 := r3.wrote hw7 (by omega)
  replace hbw := hw7.below _ _ (Nat.le_refl _) hbw
  clear ra hw7
  obtain ⟨m2, hm2⟩ : ∃ n : Nat, n = 38 * o2 := ⟨_, rfl⟩
  have q2 : IntKind.u64.wrap (38 * (o2 : Int)) = (m2 : Int) := by rw [IntKind.wrap_u64]; omega
  have hq2 := small4 m2 (by omega)
  have HM2 : Hid _ := hm2
  clear hm2
  go_wp2_with (refine wpList_load_row rfl 33 _ rfl rfl ra7 _ Try.underlying33 rfl (elInfo hx2) ?_)
  refine (take_any _ _ x2 [m2, 0, 0, 0] hx2 hq2 rfl rfl _).mono ?_
  rintro e w8 ⟨x3, o3, rfl, hx3, ho3, he3, b8⟩
  replace ra7 := ra7.kept b8
  replace r3 := r3.kept b8
  replace hbw := stepB hbw b8
  have HE3 : Hid ((wv x3 + wv b) % pN = wv a % pN) := by
    have h2 := HE2.out
    rw [wv_small, HM1.out] at h2
    rw [wv_small, HM2.out] at he3
    exact sub_math _ _ _ _ _ _ _ _ ha.lt hb.lt hx1.lt hx2.lt hx3.lt HE1.out h2 he3 ho1 ho2 ho3
  clear he3 b8 q2 hq2 HE1 HE2 HM1 HM2
  go_wp2_with (refine wpList_store_row rfl 33 _ _ rfl (nI x3) rfl rfl ra7 (by rw [hx3.len, hx2.len]) (elInfo hx2) ?_)
  intro w9 ra9 hw9
  replace r3 := r3.wrote hw9 (by omega)
  replace hbw := hw9.below _ _ (Nat.le_refl _) hbw
  clear ra7 hw9
  go_wp2_with (first | refine wpList_load_row rfl 33 _ rfl rfl ra9 _ Try.underlying33 rfl (elInfo hx3) ?_ | (refine wpList_store_row rfl 33 _ _ rfl (nI x3) rfl rfl r3 (by rw [z4_el.len, hx3.len]) (elInfo z4_el) ?_; intro w10 r10 hw10))
  refine bodyPost_row (p := 4) (ty := 33) rfl rfl rfl r10 Try.underlying33 rfl (elInfo hx3) ?_
  exact ⟨x3, rfl, hx3, HE3.out, hw10.below _ _ (by omega) hbw⟩

/-! ### Two, turned round -/
/-- The first i words of one, the others of another one. -/
def mixL (x a : List Nat) (i : Nat) : List Nat := x.take i ++ a.drop i
theorem mixL_zero (x a : List Nat) : mixL x a 0 = a := by simp [mixL]
theorem mixL_full {x a : List Nat} (hx : El4 x) (ha : El4 a) : mixL x a 4 = x := by
  unfold mixL
  rw [List.take_of_length_le (by rw [hx.1]; exact Nat.le_refl _), List.drop_eq_nil_of_le (by rw [ha.1]; exact Nat.le_refl _), List.append_nil]
theorem mixL_get {x a : List Nat} (hx : El4 x) (ha : El4 a) (i : Nat) (hi : i < 4) : (mixL x a i).getD i 0 = a.getD i 0 := by
  have h1 : (x.take i).length = i := by rw [List.length_take, hx.1]; omega
  unfold mixL
  rw [List.getD_eq_getElem?_getD, List.getElem?_append_right (by omega), h1, Nat.sub_self]
  simp
theorem mixL_set {x a : List Nat} (hx : El4 x) (ha : El4 a) (i : Nat) (hi : i < 4) : (mixL x a i).set i (x.getD i 0) = mixL x a (i + 1) := by
  have h1 : (x.take i).length = i := by rw [List.length_take, hx.1]; omega
  have h2 : i < x.length := by rw [hx.1]; exact hi
  have h3 : i < a.length := by rw [ha.1]; exact hi
  unfold mixL
  rw [List.set_append_right _ _ (by omega), h1, Nat.sub_self, List.drop_eq_getElem_cons h3, List.set_cons_zero, List.take_succ_eq_append_getElem h2, List.append_assoc]
  simp [h2]
theorem mixL_len {x a : List Nat} (hx : El4 x) (ha : El4 a) (i : Nat) (hi : i ≤ 4) : (nI (mixL x a i)).length = 4 := by
  rw [nI_length]
  unfold mixL
  rw [List.length_append, List.length_take, List.length_drop, hx.1, ha.1]
  omega

theorem swp (M : Int) (x y x' y' : Nat) (hx : x < 18446744073709551616) (hy : y < 18446744073709551616) (h : (M = 0 ∧ x' = x ∧ y' = y) ∨ (M = 18446744073709551615 ∧ x' = y ∧ y' = x)) :
    ∃ d : Nat, bits .and .u64 M (bits .xor .u64 (x : Int) (y : Int)) = (d : Int) ∧ bits .xor .u64 (x : Int) (d : Int) = (x' : Int) ∧ bits .xor .u64 (y : Int) (d : Int) = (y' : Int) := by
  have hxy : x ^^^ y < 18446744073709551616 := Nat.xor_lt_two_pow (n := 64) hx hy
  rw [u64_xor_nat x y hx hy]
  rcases h with ⟨hM, hx', hy'⟩ | ⟨hM, hx', hy'⟩
  · refine ⟨0, ?_, ?_, ?_⟩
    · rw [hM, show (0 : Int) = ((0 : Nat) : Int) from rfl, u64_and_nat 0 _ (by decide) hxy, Nat.zero_and]
    · rw [u64_xor_nat _ 0 hx (by decide), Nat.xor_zero, hx']
    · rw [u64_xor_nat _ 0 hy (by decide), Nat.xor_zero, hy']
  · refine ⟨x ^^^ y, ?_, ?_, ?_⟩
    · rw [hM, show (18446744073709551615 : Int) = ((18446744073709551615 : Nat) : Int) from rfl, u64_and_nat _ _ (by decide) hxy, Nat.and_comm, show (18446744073709551615 : Nat) = 2 ^ 64 - 1 from rfl, Nat.and_two_pow_sub_one_eq_mod, Nat.mod_eq_of_lt hxy]
    · rw [u64_xor_nat _ _ hx hxy, ← Nat.xor_assoc, Nat.xor_self, Nat.zero_xor, hx']
    · rw [u64_xor_nat _ _ hy hxy, Nat.xor_comm x y, ← Nat.xor_assoc, Nat.xor_self, Nat.zero_xor, hy']

set_option maxRecDepth 100000 in
set_option maxHeartbeats 2000000 in
theorem swap_in (bit m : Int) (A B : Array Value) (a b x y : List Nat) (ha : El4 a) (hb : El4 b) (hbit : (bit = 0 ∧ m = 0 ∧ x = a ∧ y = b) ∨ (bit = 1 ∧ m = 18446744073709551615 ∧ x = b ∧ y = a)) (hA : A = ((nI a).map (Value.int .u64)).toArray) (hB : B = ((nI b).map (Value.int .u64)).toArray) (w : World) :
    Calls Try.prog 23 #[.int .i64 bit, .agg A, .agg B] w fun e w' => e = .returned (.tuple #[elV x, elV y]) ∧ Below w.heap.size w w' := by
  have hx : El4 x := by rcases hbit with ⟨-, -, rfl, -⟩ | ⟨-, -, rfl, -⟩ <;> assumption
  have hy : El4 y := by rcases hbit with ⟨-, -, -, rfl⟩ | ⟨-, -, -, rfl⟩ <;> assumption
  have HW : Hid (∀ i, ∃ d : Nat, bits .and .u64 m (bits .xor .u64 ((a.getD i 0 : Nat) : Int) ((b.getD i 0 : Nat) : Int)) = (d : Int) ∧ bits .xor .u64 ((a.getD i 0 : Nat) : Int) (d : Int) = ((x.getD i 0 : Nat) : Int) ∧ bits .xor .u64 ((b.getD i 0 : Nat) : Int) (d : Int) = ((y.getD i 0 : Nat) : Int)) := fun i => by
    refine swp m _ _ _ _ (ha.get i) (hb.get i) ?_
    rcases hbit with ⟨-, h, rfl, rfl⟩ | ⟨-, h, rfl, rfl⟩
    · exact .inl ⟨h, rfl, rfl⟩
    · exact .inr ⟨h, rfl, rfl⟩
  have HX : Hid (El4 x) := hx
  have HY : Hid (El4 y) := hy
  have HA : Hid (El4 a) := ha
  have HB : Hid (El4 b) := hb
  have hb01 : (bit = 0 ∧ m = 0) ∨ (bit = 1 ∧ m = 18446744073709551615) := by rcases hbit with ⟨h, h', -⟩ | ⟨h, h', -⟩ <;> simp [h, h']
  clear hbit hx hy
  go_enter Try.func23, Try.ntmps23
  go_wp2_with (refine wpList_box_row (k := .u64) rfl 33 _ rfl (nI a) (by rw [← hA]; rfl) ha.ne (elMax ha) ?_)
  intro w1 r1 b1 s1
  rw [ha.len] at r1
  go_wp2_with (refine wpList_box_row (k := .u64) rfl 33 _ rfl (nI b) (by rw [← hB]; rfl) hb.ne (elMax hb) ?_)
  intro w2 r2 b2 s2
  rw [hb.len] at r2
  go_wp2_with (refine wpList_alloc_row (k := .u64) rfl 33 rfl (nI z4) (alloc_el _) z4_el.ne (elMax z4_el) ?_)
  intro w3 r3 b3 s3
  rw [z4_el.len] at r3
  go_wp2_with (refine wpList_alloc_row (k := .u64) rfl 33 rfl (nI z4) (alloc_el _) z4_el.ne (elMax z4_el) ?_)
  intro w4 r4 b4 s4
  rw [z4_el.len] at r4
  have hr1 := ((r1.kept b2).kept b3).kept b4
  have hr2 := (r2.kept b3).kept b4
  have hr3 := r3.kept b4
  have hbw := stepB (stepB (stepB b1 b2) b3) b4
  have n1 : w.heap.size < w1.heap.size := by have := s1.out; omega
  have n2 : w1.heap.size < w2.heap.size := by have := s2.out; omega
  have n3 : w2.heap.size < w3.heap.size := by have := s3.out; omega
  clear r1 r2 r3 b1 b2 b3 b4 s1 s2 s3 s4 hA hB ha hb
  rw [← mixL_zero x a] at hr1
  rw [← mixL_zero y b] at hr2
  have hm1 : IntKind.u64.wrap (-1) = 18446744073709551615 := by decide
  rcases hb01 with ⟨rfl, rfl⟩ | ⟨rfl, rfl⟩
  all_goals
    go_wp2
    go_loopw [22] (fun iv wx => ∃ (i : Nat), i ≤ 4 ∧ iv = .int .i64 (i : Int) ∧ RowAt .u64 33 w.heap.size 4 (nI (mixL x a i)) wx ∧ RowAt .u64 33 w1.heap.size 4 (nI (mixL y b i)) wx ∧ RowAt .u64 33 w2.heap.size 4 (nI z4) wx ∧ RowAt .u64 33 w3.heap.size 4 (nI z4) wx ∧ Below w.heap.size w wx) (fun iv _ => 4 - (intOf iv).toNat)
    case atStart => exact ⟨0, by omega, rfl, hr1, hr2, hr3, r4, hbw⟩
    case round =>
      obtain ⟨i, hi, rfl, ra, rb, rc, rd, hbx⟩ := hrel
      clear hr1 hr2 hr3 r4 hbw
      by_cases hlt : i < 4
      · have hd : decide ((i : Int) < 4) = true := decide_eq_true (by omega)
        have hiI : (i : Int) < 4 := by omega
        have hca := ra.cell (j := i) (by rw [mixL_len HX.out HA.out i hi]; exact hlt)
        have hcb := rb.cell (j := i) (by rw [mixL_len HY.out HB.out i hi]; exact hlt)
        have hfa := ra.free i
        have hfb := rb.free i
        rw [nI_get, mixL_get HX.out HA.out i hlt] at hca
        rw [nI_get, mixL_get HY.out HB.out i hlt] at hcb
        obtain ⟨d, e1, e2, e3⟩ := HW.out i
        have HR : Hid (RowAt .u64 33 w.heap.size 4 (nI (mixL x a (i + 1))) ((wr.setCell ⟨w.heap.size, i, none⟩ (.int .u64 ((x.getD i 0 : Nat) : Int))).setCell ⟨w1.heap.size, i, none⟩ (.int .u64 ((y.getD i 0 : Nat) : Int))) ∧
            RowAt .u64 33 w1.heap.size 4 (nI (mixL y b (i + 1))) ((wr.setCell ⟨w.heap.size, i, none⟩ (.int .u64 ((x.getD i 0 : Nat) : Int))).setCell ⟨w1.heap.size, i, none⟩ (.int .u64 ((y.getD i 0 : Nat) : Int))) ∧
            RowAt .u64 33 w2.heap.size 4 (nI z4) ((wr.setCell ⟨w.heap.size, i, none⟩ (.int .u64 ((x.getD i 0 : Nat) : Int))).setCell ⟨w1.heap.size, i, none⟩ (.int .u64 ((y.getD i 0 : Nat) : Int))) ∧
            RowAt .u64 33 w3.heap.size 4 (nI z4) ((wr.setCell ⟨w.heap.size, i, none⟩ (.int .u64 ((x.getD i 0 : Nat) : Int))).setCell ⟨w1.heap.size, i, none⟩ (.int .u64 ((y.getD i 0 : Nat) : Int))) ∧
            Below w.heap.size w ((wr.setCell ⟨w.heap.size, i, none⟩ (.int .u64 ((x.getD i 0 : Nat) : Int))).setCell ⟨w1.heap.size, i, none⟩ (.int .u64 ((y.getD i 0 : Nat) : Int)))) := by
          refine ⟨?_, ?_, ?_, ?_, ?_⟩
          · have h1 := ra.set i ((x.getD i 0 : Nat) : Int)
            rw [nI_set, mixL_set HX.out HA.out i hlt] at h1
            exact h1.other (p := ⟨w1.heap.size, i, none⟩) (by show w1.heap.size ≠ _; omega) _
          · have h1 := (rb.other (p := ⟨w.heap.size, i, none⟩) (by show w.heap.size ≠ _; omega) (.int .u64 ((x.getD i 0 : Nat) : Int))).set i ((y.getD i 0 : Nat) : Int)
            rw [nI_set, mixL_set HY.out HB.out i hlt] at h1
            exact h1
          · exact (rc.other (p := ⟨w.heap.size, i, none⟩) (by show w.heap.size ≠ _; omega) _).other (p := ⟨w1.heap.size, i, none⟩) (by show w1.heap.size ≠ _; omega) _
          · exact (rd.other (p := ⟨w.heap.size, i, none⟩) (by show w.heap.size ≠ _; omega) _).other (p := ⟨w1.heap.size, i, none⟩) (by show w1.heap.size ≠ _; omega) _
          · exact (Wrote.set w1.heap.size i _ _).below _ _ (by omega) ((Wrote.set w.heap.size i _ _).below _ _ (Nat.le_refl _) hbx)
        have hne : w1.heap.size ≠ w.heap.size := by omega
        generalize a.getD i 0 = p at hca e1 e2
        generalize b.getD i 0 = q at hcb e1 e3
        generalize x.getD i 0 = p' at HR e2
        generalize y.getD i 0 = q' at HR e3
        clear ra rb rc rd hbx
        go_wp2_with fail
        refine wpG_begin (by kernel_rfl) ?_
        refine wpG_take (i := 0) (oi := { dst := some 25, op := Op.move (Operand.tmp 8), type := 31, pos := "field.go:162", after := #[], guard := none }) (v := ?_) rfl (by kernel_rfl) (by kernel_rfl) (by kernel_rfl) (by rfl) ?_ ?_
        rotate_left
        · intro W hW; first | (go_simp; done) | (go_simp; with_reducible rfl)
        try simp only [Act.put, List.setIfInBounds_toArray, List.set_cons_zero, List.set_cons_succ]
        refine wpG_take (i := 1) (oi := { dst := some 26, op := Op.move (Operand.tmp 9), type := 3, pos := "field.go:162", after := #[], guard := none }) (v := ?_) rfl (by kernel_rfl) (by kernel_rfl) (by kernel_rfl) (by rfl) ?_ ?_
        rotate_left
        · intro W hW; first | (go_simp; done) | (go_simp; with_reducible rfl)
        try simp only [Act.put, List.setIfInBounds_toArray, List.set_cons_zero, List.set_cons_succ]
        refine wpG_take (i := 2) (oi := { dst := some 27, op := Op.indexAddr 33 (Operand.tmp 4) (Operand.tmp 26), type := 0, pos := "field.go:162", after := #[{ on := 1, ground := Ground.data }], guard := none }) (v := ?_) rfl (by kernel_rfl) (by kernel_rfl) (by kernel_rfl) (by rfl) ?_ ?_
        rotate_left
        · intro W hW; first | (go_simp; done) | (go_simp; with_reducible rfl)
        try simp only [Act.put, List.setIfInBounds_toArray, List.set_cons_zero, List.set_cons_succ]
        refine wpG_take (i := 3) (oi := { dst := some 28, op := Op.load 31 (Operand.tmp 27), type := 31, pos := "field.go:162", after := #[{ on := 2, ground := Ground.data }], guard := none }) (v := ?_) rfl (by kernel_rfl) (by kernel_rfl) (by kernel_rfl) (by rfl) ?_ ?_
        rotate_left
        · intro W hW; have hcW := cellU hca hW; first | (go_simp; done) | (go_simp; with_reducible rfl)
        try simp only [Act.put, List.setIfInBounds_toArray, List.set_cons_zero, List.set_cons_succ]
        refine wpG_take (i := 4) (oi := { dst := some 29, op := Op.move (Operand.tmp 9), type := 3, pos := "field.go:162", after := #[], guard := none }) (v := ?_) rfl (by kernel_rfl) (by kernel_rfl) (by kernel_rfl) (by rfl) ?_ ?_
        rotate_left
        · intro W hW; first | (go_simp; done) | (go_simp; with_reducible rfl)
        try simp only [Act.put, List.setIfInBounds_toArray, List.set_cons_zero, List.set_cons_succ]
        refine wpG_take (i := 5) (oi := { dst := some 30, op := Op.indexAddr 33 (Operand.tmp 5) (Operand.tmp 29), type := 0, pos := "field.go:162", after := #[{ on := 4, ground := Ground.data }], guard := none }) (v := ?_) rfl (by kernel_rfl) (by kernel_rfl) (by kernel_rfl) (by rfl) ?_ ?_
        rotate_left
        · intro W hW; first | (go_simp; done) | (go_simp; with_reducible rfl)
        try simp only [Act.put, List.setIfInBounds_toArray, List.set_cons_zero, List.set_cons_succ]
        refine wpG_take (i := 6) (oi := { dst := some 31, op := Op.load 31 (Operand.tmp 30), type := 31, pos := "field.go:162", after := #[{ on := 5, ground := Ground.data }], guard := none }) (v := ?_) rfl (by kernel_rfl) (by kernel_rfl) (by kernel_rfl) (by rfl) ?_ ?_
        rotate_left
        · intro W hW; have hcW := cellU hcb hW; first | (go_simp; done) | (go_simp; with_reducible rfl)
        try simp only [Act.put, List.setIfInBounds_toArray, List.set_cons_zero, List.set_cons_succ]
        refine wpG_take (i := 7) (oi := { dst := some 32, op := Op.binOp BinOp.xor 31 (Operand.tmp 28) (Operand.tmp 31) 31, type := 31, pos := "field.go:162", after := #[{ on := 3, ground := Ground.data }, { on := 6, ground := Ground.data }], guard := none }) (v := ?_) rfl (by kernel_rfl) (by kernel_rfl) (by kernel_rfl) (by rfl) ?_ ?_
        rotate_left
        · intro W hW; first | (go_simp; done) | (go_simp; with_reducible rfl)
        try simp only [Act.put, List.setIfInBounds_toArray, List.set_cons_zero, List.set_cons_succ]
        refine wpG_take (i := 8) (oi := { dst := some 33, op := Op.binOp BinOp.and 31 (Operand.tmp 25) (Operand.tmp 32) 31, type := 31, pos := "field.go:162", after := #[{ on := 0, ground := Ground.data }, { on := 7, ground := Ground.data }], guard := none }) (v := ?_) rfl (by kernel_rfl) (by kernel_rfl) (by kernel_rfl) (by rfl) ?_ ?_
        rotate_left
        · intro W hW; first | (go_simp; done) | (go_simp; with_reducible rfl)
        try simp only [Act.put, List.setIfInBounds_toArray, List.set_cons_zero, List.set_cons_succ]
        refine wpG_take (i := 9) (oi := { dst := some 10, op := Op.assign (Operand.tmp 33), type := 31, pos := "field.go:162", after := #[{ on := 8, ground := Ground.data }, { on := 0, ground := Ground.phase }, { on := 1, ground := Ground.phase }, { on := 2, ground := Ground.phase }, { on := 3, ground := Ground.phase }, { on := 4, ground := Ground.phase }, { on := 5, ground := Ground.phase }, { on := 6, ground := Ground.phase }, { on := 7, ground := Ground.phase }, { on := 8, ground := Ground.phase }], guard := none }) (v := ?_) rfl (by kernel_rfl) (by kernel_rfl) (by kernel_rfl) (by rfl) ?_ ?_
        rotate_left
        · intro W hW; first | (go_simp; done) | (go_simp; with_reducible rfl)
        try simp only [Act.put, List.setIfInBounds_toArray, List.set_cons_zero, List.set_cons_succ]
        refine wpG_done (by kernel_rfl) ?_
        go_wp2
        go_roundw
        case rel => exact ⟨i + 1, by omega, by go_num, HR.out.1.drew, HR.out.2.1.drew, HR.out.2.2.1.drew, HR.out.2.2.2.1.drew, HR.out.2.2.2.2.drew⟩
        case measure => simp [intOf] <;> omega
      · have hie : i = 4 := by omega
        have hd : decide ((i : Int) < 4) = false := decide_eq_false (by omega)
        have hiI : (4 : Int) ≤ (i : Int) := by omega
        rw [hie, mixL_full HX.out HA.out] at ra
        rw [hie, mixL_full HY.out HB.out] at rb
        clear hie
        go_wp2_with fail
        have hS : RowAt .u64 33 w.heap.size 4 (nI x) wr.drew ∧ RowAt .u64 33 w1.heap.size 4 (nI y) wr.drew := ⟨ra.drew, rb.drew⟩
        replace rc := rc.drew
        replace rd := rd.drew
        replace hbx := hbx.drew
        refine wpS_begin (fun W => RowAt .u64 33 w.heap.size 4 (nI x) W ∧ RowAt .u64 33 w1.heap.size 4 (nI y) W) (by kernel_rfl) ?_
        refine wpS_take (hS := hS) (i := 0) (oi := { dst := some 47, op := Op.load 33 (Operand.tmp 4), type := 33, pos := "field.go:166", after := #[], guard := none }) (v := ?_) rfl (by kernel_rfl) (by kernel_rfl) (by kernel_rfl) (by rfl) ?_ ?_
        rotate_left
        · intro W hW; refine Eq.trans (exec_load_row' 33 _ (by rfl) (by rfl) hW.1 (Below.refl _ _) _ Try.underlying33 rfl (elInfo HX.out)) ?_; with_reducible rfl
        try simp only [Act.put, List.setIfInBounds_toArray, List.set_cons_zero, List.set_cons_succ]
        refine wpS_take (hS := hS) (i := 1) (oi := { dst := some 48, op := Op.load 33 (Operand.tmp 5), type := 33, pos := "field.go:166", after := #[{ on := 2, ground := Ground.gcOnly Departure.lateStores }], guard := none }) (v := ?_) rfl (by kernel_rfl) (by kernel_rfl) (by kernel_rfl) (by rfl) ?_ ?_
        rotate_left
        · intro W hW; refine Eq.trans (exec_load_row' 33 _ (by rfl) (by rfl) hW.2 (Below.refl _ _) _ Try.underlying33 rfl (elInfo HY.out)) ?_; with_reducible rfl
        try simp only [Act.put, List.setIfInBounds_toArray, List.set_cons_zero, List.set_cons_succ]
        refine wpS_do (i := 2) (o := { dst := none, op := Op.store 33 (Operand.tmp 6) (Operand.tmp 47), type := 0, pos := "field.go:166", after := #[{ on := 0, ground := Ground.data }, { on := 0, ground := Ground.phase }, { on := 1, ground := Ground.textOnly Departure.lateStores }], guard := none }) (by kernel_rfl) rfl (by rfl) fun K hK => ?_
        refine wp_store_row 33 _ _ rfl (nI x) rfl rfl rc (by rw [z4_el.len, HX.out.len]) (elInfo z4_el) ?_
        intro w5 rc5 hw5
        replace hS := And.intro (hS.1.wrote hw5 (by omega)) (hS.2.wrote hw5 (by omega))
        replace rd := rd.wrote hw5 (by omega)
        replace hbx := hw5.below _ _ (by omega) hbx
        refine hK.out _ _ hS ?_
        clear hK K
        try simp only [Act.put, List.setIfInBounds_toArray, List.set_cons_zero, List.set_cons_succ]
        refine wpS_do (i := 3) (o := { dst := none, op := Op.store 33 (Operand.tmp 7) (Operand.tmp 48), type := 0, pos := "field.go:166", after := #[{ on := 1, ground := Ground.data }, { on := 2, ground := Ground.chain }, { on := 0, ground := Ground.phase }, { on := 1, ground := Ground.phase }, { on := 2, ground := Ground.phase }], guard := none }) (by kernel_rfl) rfl (by rfl) fun K hK => ?_
        refine wp_store_row 33 _ _ rfl (nI y) rfl rfl rd (by rw [z4_el.len, HY.out.len]) (elInfo z4_el) ?_
        intro w6 rd6 hw6
        replace hS := And.intro (hS.1.wrote hw6 (by omega)) (hS.2.wrote hw6 (by omega))
        replace rc5 := rc5.wrote hw6 (by omega)
        replace hbx := hw6.below _ _ (by omega) hbx
        refine hK.out _ _ hS ?_
        clear hK K
        try simp only [Act.put, List.setIfInBounds_toArray, List.set_cons_zero, List.set_cons_succ]
        refine wpS_done (by kernel_rfl) ?_
        go_wp2_with fail
        refine bodyPost_rows (p := 6) (q := 7) (ty := 33) rfl rfl rfl rfl rc5 rd6 Try.underlying33 rfl (elInfo HX.out) (elInfo HY.out) ?_
        exact ⟨rfl, hbx⟩

set_option maxRecDepth 100000 in
set_option maxHeartbeats 2000000 in
theorem swap_out (bit : Int) (A B : Array Value) (a b : List Nat) (ha : El4 a) (hb : El4 b) (h0 : (bit != 0) = true) (h1 : (bit != 1) = true) (hA : A = ((nI a).map (Value.int .u64)).toArray) (hB : B = ((nI b).map (Value.int .u64)).toArray) (w : World) :
    Calls Try.prog 23 #[.int .i64 bit, .agg A, .agg B] w fun e w' => e = .returned (.tuple #[elV a, elV b]) ∧ Below w.heap.size w w' := by
  go_enter Try.func23, Try.ntmps23
  go_wp2_with (refine wpList_box_row (k := .u64) rfl 33 _ rfl (nI a) (by rw [← hA]; rfl) ha.ne (elMax ha) ?_)
  intro w1 r1 b1 s1
  rw [ha.len] at r1
  go_wp2_with (refine wpList_box_row (k := .u64) rfl 33 _ rfl (nI b) (by rw [← hB]; rfl) hb.ne (elMax hb) ?_)
  intro w2 r2 b2 s2
  rw [hb.len] at r2
  go_wp2_with (refine wpList_alloc_row (k := .u64) rfl 33 rfl (nI z4) (alloc_el _) z4_el.ne (elMax z4_el) ?_)
  intro w3 r3 b3 s3
  rw [z4_el.len] at r3
  go_wp2_with (refine wpList_alloc_row (k := .u64) rfl 33 rfl (nI z4) (alloc_el _) z4_el.ne (elMax z4_el) ?_)
  intro w4 r4 b4 s4
  rw [z4_el.len] at r4
  have hr1 := ((r1.kept b2).kept b3).kept b4
  have hr2 := (r2.kept b3).kept b4
  have rc := (r3.kept b4).drew
  have rd := r4.drew
  have hbx := (stepB (stepB (stepB b1 b2) b3) b4).drew
  have n1 : w.heap.size < w1.heap.size := by have := s1.out; omega
  have n2 : w1.heap.size < w2.heap.size := by have := s2.out; omega
  have n3 : w2.heap.size < w3.heap.size := by have := s3.out; omega
  clear r1 r2 r3 b1 b2 b3 b4 s1 s2 s3 s4 hA hB
  go_wp2_with fail
  have hS : RowAt .u64 33 w.heap.size 4 (nI a) w4.drew ∧ RowAt .u64 33 w1.heap.size 4 (nI b) w4.drew := ⟨hr1.drew, hr2.drew⟩
  refine wpS_begin (fun W => RowAt .u64 33 w.heap.size 4 (nI a) W ∧ RowAt .u64 33 w1.heap.size 4 (nI b) W) (by kernel_rfl) ?_
  refine wpS_take (hS := hS) (i := 0) (oi := { dst := some 17, op := Op.load 33 (Operand.tmp 4), type := 33, pos := "field.go:158", after := #[], guard := none }) (v := ?_) rfl (by kernel_rfl) (by kernel_rfl) (by kernel_rfl) (by rfl) ?_ ?_
  rotate_left
  · intro W hW; refine Eq.trans (exec_load_row' 33 _ (by rfl) (by rfl) hW.1 (Below.refl _ _) _ Try.underlying33 rfl (elInfo ha)) ?_; with_reducible rfl
  try simp only [Act.put, List.setIfInBounds_toArray, List.set_cons_zero, List.set_cons_succ]
  refine wpS_take (hS := hS) (i := 1) (oi := { dst := some 18, op := Op.load 33 (Operand.tmp 5), type := 33, pos := "field.go:158", after := #[{ on := 2, ground := Ground.gcOnly Departure.lateStores }], guard := none }) (v := ?_) rfl (by kernel_rfl) (by kernel_rfl) (by kernel_rfl) (by rfl) ?_ ?_
  rotate_left
  · intro W hW; refine Eq.trans (exec_load_row' 33 _ (by rfl) (by rfl) hW.2 (Below.refl _ _) _ Try.underlying33 rfl (elInfo hb)) ?_; with_reducible rfl
  try simp only [Act.put, List.setIfInBounds_toArray, List.set_cons_zero, List.set_cons_succ]
  refine wpS_do (i := 2) (o := { dst := none, op := Op.store 33 (Operand.tmp 6) (Operand.tmp 17), type := 0, pos := "field.go:158", after := #[{ on := 0, ground := Ground.data }, { on := 0, ground := Ground.phase }, { on := 1, ground := Ground.textOnly Departure.lateStores }], guard := none }) (by kernel_rfl) rfl (by rfl) fun K hK => ?_
  refine wp_store_row 33 _ _ rfl (nI a) rfl rfl rc (by rw [z4_el.len, ha.len]) (elInfo z4_el) ?_
  intro w5 rc5 hw5
  replace hS := And.intro (hS.1.wrote hw5 (by omega)) (hS.2.wrote hw5 (by omega))
  replace rd := rd.wrote hw5 (by omega)
  replace hbx := hw5.below _ _ (by omega) hbx
  refine hK.out _ _ hS ?_
  clear hK K
  try simp only [Act.put, List.setIfInBounds_toArray, List.set_cons_zero, List.set_cons_succ]
  refine wpS_do (i := 3) (o := { dst := none, op := Op.store 33 (Operand.tmp 7) (Operand.tmp 18), type := 0, pos := "field.go:158", after := #[{ on := 1, ground := Ground.data }, { on := 2, ground := Ground.chain }, { on := 0, ground := Ground.phase }, { on := 1, ground := Ground.phase }, { on := 2, ground := Ground.phase }], guard := none }) (by kernel_rfl) rfl (by rfl) fun K hK => ?_
  refine wp_store_row 33 _ _ rfl (nI b) rfl rfl rd (by rw [z4_el.len, hb.len]) (elInfo z4_el) ?_
  intro w6 rd6 hw6
  replace hS := And.intro (hS.1.wrote hw6 (by omega)) (hS.2.wrote hw6 (by omega))
  replace rc5 := rc5.wrote hw6 (by omega)
  replace hbx := hw6.below _ _ (by omega) hbx
  refine hK.out _ _ hS ?_
  clear hK K
  try simp only [Act.put, List.setIfInBounds_toArray, List.set_cons_zero, List.set_cons_succ]
  refine wpS_done (by kernel_rfl) ?_
  go_wp2_with fail
  refine bodyPost_rows (p := 6) (q := 7) (ty := 33) rfl rfl rfl rfl rc5 rd6 Try.underlying33 rfl (elInfo ha) (elInfo hb) ?_
  exact ⟨rfl, hbx⟩

theorem swap_any (bit : Int) (A B : Array Value) (a b : List Nat) (ha : El4 a) (hb : El4 b) (hA : A = ((nI a).map (Value.int .u64)).toArray) (hB : B = ((nI b).map (Value.int .u64)).toArray) (w : World) :
    Calls Try.prog 23 #[.int .i64 bit, .agg A, .agg B] w fun e w' => e = .returned (.tuple #[elV (if bit = 1 then b else a), elV (if bit = 1 then a else b)]) ∧ Below w.heap.size w w' := by
  by_cases h1 : bit = 1
  · rw [if_pos h1, if_pos h1]
    exact swap_in bit 18446744073709551615 A B a b b a ha hb (.inr ⟨h1, rfl, rfl, rfl⟩) hA hB w
  · rw [if_neg h1, if_neg h1]
    by_cases h0 : bit = 0
    · exact swap_in bit 0 A B a b a b ha hb (.inl ⟨h0, rfl, rfl, rfl⟩) hA hB w
    · exact swap_out bit A B a b ha hb (by simpa using h0) (by simpa using h1) hA hB w

/-! ### The number below the prime -/
def c19 : List Nat := [19, 0, 0, 0]
theorem c19_el : El4 c19 := El4.mk4 (by decide) (by decide) (by decide) (by decide)
theorem c19_wv : wv c19 = 19 := by decide
def cP : List Nat := [18446744073709551597, 18446744073709551615, 18446744073709551615, 9223372036854775807]
theorem cP_el : El4 cP := El4.mk4 (by decide) (by decide) (by decide) (by decide)
theorem cP_wv : wv cP = pN := wv_prime
theorem rest_split {a : List Nat} (ha : El4 a) : wv (a.set 3 (a.getD 3 0 % 9223372036854775808)) = wv a % 57896044618658097711785492504343953926634992332820282019728792003956564819968 ∧ a.getD 3 0 / 9223372036854775808 = wv a / 57896044618658097711785492504343953926634992332820282019728792003956564819968 := by
  obtain ⟨p, q, r, s, rfl, hp, hq, hr, hs⟩ := ha.four
  exact split255 p q r s hp hq hr hs

set_option maxRecDepth 100000 in
set_option maxHeartbeats 2000000 in
theorem rest_any (A : Array Value) (a : List Nat) (ha : El4 a) (hA : A = ((nI a).map (Value.int .u64)).toArray) (w : World) :
    Calls Try.prog 14 #[.agg A] w fun e w' => ∃ r : List Nat, e = .returned (elV r) ∧ El4 r ∧ wv r = wv a % pN ∧ Below w.heap.size w w' := by
  go_enter Try.func14, Try.ntmps14
  go_wp2_with (refine wpList_box_row (k := .u64) rfl 33 _ rfl (nI a) (by rw [← hA]; rfl) ha.ne (elMax ha) ?_)
  intro w1 r1 b1 s1
  rw [ha.len] at r1
  go_wp2_with (refine wpList_alloc_row (k := .u64) rfl 33 rfl (nI z4) (alloc_el _) z4_el.ne (elMax z4_el) ?_)
  intro w2 r2 b2 s2
  rw [z4_el.len] at r2
  have ra := r1.kept b2
  have hbw := stepB b1 b2
  have n1 : w.heap.size < w1.heap.size := by have := s1.out; omega
  obtain ⟨hsp1, hsp2⟩ := rest_split ha
  have h3 := ha.get 3
  have hcell := ra.cell (j := 3) (by rw [ha.len]; decide)
  have hfree := ra.free 3
  rw [nI_get] at hcell
  have m1 := mask63 (a.getD 3 0) h3
  have HR : Hid (∀ z : Nat, RowAt .u64 33 w.heap.size 4 (nI (a.set 3 z)) (w2.setCell ⟨w.heap.size, 3, none⟩ (.int .u64 (z : Int)))) := fun z => by
    rw [← nI_set]
    exact ra.set 3 _
  have HZ : Hid (∀ u : Value, RowAt .u64 33 w1.heap.size 4 (nI z4) (w2.setCell ⟨w.heap.size, 3, none⟩ u) ∧ Below w.heap.size w (w2.setCell ⟨w.heap.size, 3, none⟩ u)) := fun u =>
    ⟨r2.other (p := ⟨w.heap.size, 3, none⟩) (by show w.heap.size ≠ _; omega) u, (Wrote.set w.heap.size 3 w2 u).below _ _ (Nat.le_refl _) hbw⟩
  have HS : Hid (∀ z : Nat, z < 18446744073709551616 → El4 (a.set 3 z)) := fun z hz => ha.set 3 hz
  have HL := ha.lt
  obtain ⟨X, hX⟩ : ∃ n : Nat, n = wv a := ⟨_, rfl⟩
  rw [← hX] at hsp1 hsp2 HL
  generalize a.getD 3 0 = x at hcell m1 h3 hsp1 hsp2
  obtain ⟨z, hz⟩ : ∃ n : Nat, n = x % 9223372036854775808 := ⟨_, rfl⟩
  obtain ⟨t, ht⟩ : ∃ n : Nat, n = x / 9223372036854775808 := ⟨_, rfl⟩
  rw [← hz] at m1 hsp1
  rw [← ht] at hsp2
  have m2 : (x : Int) / 9223372036854775808 = (t : Int) := by omega
  have htl : t < 18446744073709551616 := by omega
  have hzl : z < 18446744073709551616 := by omega
  have hE := HS.out z hzl
  have hR := HR.out z
  obtain ⟨hRz, hbn⟩ := HZ.out (.int .u64 (z : Int))
  have HP : Hid (wv (a.set 3 z) = X % 57896044618658097711785492504343953926634992332820282019728792003956564819968 ∧ t = X / 57896044618658097711785492504343953926634992332820282019728792003956564819968 ∧ X < 115792089237316195423570985008687907853269984665640564039457584007913129639936 ∧ X = wv a) := ⟨hsp1, hsp2, HL, hX⟩
  generalize a.set 3 z = y at hE hR HP
  clear r1 b1 b2 s1 s2 ra hbw HR HZ HS hsp1 hsp2 HL hX hz ht h3 hzl ha hA r2
  go_wp2_with (refine wpList_load_row rfl 33 _ rfl rfl hR _ Try.underlying33 rfl (elInfo hE) ?_)
  refine (addTimes_any _ _ y c19 t _ hE c19_el htl rfl rfl rfl _).mono ?_
  rintro e w3 ⟨x1, c1, rfl, hx1, hc1, he1, b3⟩
  rw [c19_wv] at he1
  replace hR := hR.kept b3
  replace hRz := hRz.kept b3
  replace hbn := stepB hbn b3
  have HE1 : Hid _ := he1
  clear he1 b3 hcell hfree m1 m2
  go_wp2_with (refine wpList_store_row rfl 33 _ _ rfl (nI x1) rfl rfl hR (by rw [hx1.len, hE.len]) (elInfo hE) ?_)
  intro w4 ra4 hw4
  replace hRz := hRz.wrote hw4 (by omega)
  replace hbn := hw4.below _ _ (Nat.le_refl _) hbn
  clear hR hw4
  go_wp2_with (refine wpList_load_row rfl 33 _ rfl rfl ra4 _ Try.underlying33 rfl (elInfo hx1) ?_)
  refine (take_any _ _ x1 cP hx1 cP_el rfl rfl _).mono ?_
  rintro e w5 ⟨x2, o2, rfl, hx2, ho2, he2, b5⟩
  rw [cP_wv] at he2
  replace ra4 := ra4.kept b5
  replace hRz := hRz.kept b5
  replace hbn := stepB hbn b5
  have hge5 : w1.heap.size < w5.heap.size := hRz.lt
  obtain ⟨p1, p2, p3, p4⟩ := HP.out
  have he1 := HE1.out
  rw [p1, p2] at he1
  obtain ⟨f1, f0⟩ := rest_math _ _ _ _ _ p3 hx1.lt hx2.lt he1 he2 ho2
  rw [p4] at f1 f0
  have HF : Hid ((o2 = 1 → wv x1 = wv a % pN) ∧ (o2 = 0 → wv x2 = wv a % pN)) := ⟨f1, f0⟩
  clear f1 f0 p1 p2 p3 p4 he1 HE1 HP he2 b5
  go_wp2_with (refine wpList_alloc_row (k := .u64) rfl 33 rfl (nI z4) (alloc_el _) z4_el.ne (elMax z4_el) ?_)
  intro w6 r6 b6 s6
  rw [z4_el.len] at r6
  replace ra4 := ra4.kept b6
  replace hRz := hRz.kept b6
  replace hbn := stepB hbn b6
  clear b6 s6
  go_wp2_with (refine wpList_store_row rfl 33 _ _ rfl (nI x2) rfl rfl r6 (by rw [hx2.len, z4_el.len]) (elInfo z4_el) ?_)
  intro w7 r7 hw7
  replace ra4 := ra4.wrote hw7 (by omega)
  replace hRz := hRz.wrote hw7 (by omega)
  replace hbn := hw7.below _ _ (by omega) hbn
  clear r6 hw7
  have v1 : IntKind.i64.wrap (o2 : Int) = (o2 : Int) := IntWalk.i64_in _ (by omega)
  go_wp2_with (first | refine wpList_load_row rfl 33 _ rfl rfl r7 _ Try.underlying33 rfl (elInfo hx2) ?_ | refine wpList_load_row rfl 33 _ rfl rfl ra4 _ Try.underlying33 rfl (elInfo hx1) ?_)
  refine (swap_any _ _ _ x2 x1 hx2 hx1 rfl rfl _).mono ?_
  rintro e w8 ⟨rfl, b8⟩
  obtain ⟨X1, hX1⟩ : ∃ l : List Nat, l = if (o2 : Int) = 1 then x1 else x2 := ⟨_, rfl⟩
  obtain ⟨X2, hX2⟩ : ∃ l : List Nat, l = if (o2 : Int) = 1 then x2 else x1 := ⟨_, rfl⟩
  rw [← hX1, ← hX2]
  have hel1 : El4 X1 := by rw [hX1]; split <;> assumption
  have hel2 : El4 X2 := by rw [hX2]; split <;> assumption
  have HG : Hid (wv X1 = wv a % pN) := by
    show _ = _
    rw [hX1]
    by_cases h1 : (o2 : Int) = 1
    · rw [if_pos h1]
      exact HF.out.1 (by omega)
    · rw [if_neg h1]
      exact HF.out.2 (by omega)
  replace hRz := hRz.kept b8
  replace hbn := stepB hbn b8
  clear hX1 hX2 HF b8 ra4 r7 v1
  go_wp2_with (refine wpList_alloc_row (k := .u64) rfl 33 rfl (nI z4) (alloc_el _) z4_el.ne (elMax z4_el) ?_)
  intro w9 r9 b9 s9
  rw [z4_el.len] at r9
  go_wp2_with (refine wpList_alloc_row (k := .u64) rfl 33 rfl (nI z4) (alloc_el _) z4_el.ne (elMax z4_el) ?_)
  intro w10 r10 b10 s10
  rw [z4_el.len] at r10
  have hg8 : w1.heap.size < w8.heap.size := hRz.lt
  have hg9 : w8.heap.size < w9.heap.size := by have := s9.out; omega
  have hw8 := hbn.size
  replace hRz := (hRz.kept b9).kept b10
  replace r9 := r9.kept b10
  replace hbn := stepB (stepB hbn b9) b10
  clear b9 b10 s9 s10
  go_wp2_with (refine wpList_store_row rfl 33 _ _ rfl (nI X1) rfl rfl r9 (by rw [hel1.len, z4_el.len]) (elInfo z4_el) ?_)
  intro w11 r11 hw11
  replace hRz := hRz.wrote hw11 (by omega)
  replace r10 := r10.wrote hw11 (by omega)
  replace hbn := hw11.below _ _ (by omega) hbn
  clear r9 hw11
  go_wp2_with (refine wpList_store_row rfl 33 _ _ rfl (nI X2) rfl rfl r10 (by rw [hel2.len, z4_el.len]) (elInfo z4_el) ?_)
  intro w12 r12 hw12
  replace hRz := hRz.wrote hw12 (by omega)
  replace r11 := r11.wrote hw12 (by omega)
  replace hbn := hw12.below _ _ (by omega) hbn
  clear r10 r12 hw12
  go_wp2_with (first | refine wpList_load_row rfl 33 _ rfl rfl r11 _ Try.underlying33 rfl (elInfo hel1) ?_ | (refine wpList_store_row rfl 33 _ _ rfl (nI X1) rfl rfl hRz (by rw [z4_el.len, hel1.len]) (elInfo z4_el) ?_; intro w13 r13 hw13))
  refine bodyPost_row (p := 2) (ty := 33) rfl rfl rfl r13 Try.underlying33 rfl (elInfo hel1) ?_
  exact ⟨X1, rfl, hel1, HG.out, hw13.below _ _ (by omega) hbn⟩
end Go.Proofs.Ythokfcmnijpkhab
