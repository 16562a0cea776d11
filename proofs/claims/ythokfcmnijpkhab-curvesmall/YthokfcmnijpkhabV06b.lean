/- What turns a pair round, and what a number's binary digit is: contracts of package curve, second part. -/
import Derived.Test.YthokfcmnijpkhabV06a
import Derived.Test.YthokfcmnijpkhabWords
namespace Go.Proofs.Ythokfcmnijpkhab
open Go.ChangeShapes Go.WideShapes Go.ChangeAt Go.RowKit
set_option linter.unusedSimpArgs false
set_option linter.unusedVariables false

theorem parts1 (a b c d : List Nat) : prC a b c d = [] ++ cE a ++ (cE b ++ (cE c ++ cE d)) := by simp [prC, frC]
theorem parts2 (a b c d : List Nat) : prC a b c d = cE a ++ cE b ++ (cE c ++ cE d) := by simp [prC, frC]
theorem parts3 (a b c d : List Nat) : prC a b c d = frC a b ++ cE c ++ cE d := by simp [prC, frC]
theorem parts4 (a b c d : List Nat) : prC a b c d = (frC a b ++ cE c) ++ cE d ++ [] := by simp [prC, frC]
theorem first1 (a b c d : List Nat) : prC a b c d = [] ++ frC a b ++ frC c d := by simp [prC]
theorem whole1 (a : List Value) : a = [] ++ a ++ [] := by simp
theorem half1 (a b : List Nat) : frC a b = [] ++ cE a ++ cE b := by simp [frC]
theorem half2 (a b : List Nat) : frC a b = cE a ++ cE b ++ [] := by simp [frC]

set_option maxRecDepth 100000 in
set_option maxHeartbeats 2000000 in
theorem turned_any (bit : Int) (P : Array Value) (a b c d : List Nat) (ha : El4 a) (hb : El4 b) (hc : El4 c) (hd : El4 d) (hP : P = (prC a b c d).toArray) (w : World) :
    Calls Try.prog 17 #[.agg P, .int .i64 bit] w fun e w' => e = .returned (.agg (prC (if bit = 1 then c else a) (if bit = 1 then d else b) (if bit = 1 then a else c) (if bit = 1 then b else d)).toArray) ∧ Below w.heap.size w w' := by
  obtain ⟨X, hX⟩ : ∃ l : List Nat, l = if bit = 1 then c else a := ⟨_, rfl⟩
  obtain ⟨Z, hZ⟩ : ∃ l : List Nat, l = if bit = 1 then d else b := ⟨_, rfl⟩
  obtain ⟨S, hS⟩ : ∃ l : List Nat, l = if bit = 1 then a else c := ⟨_, rfl⟩
  obtain ⟨T, hT⟩ : ∃ l : List Nat, l = if bit = 1 then b else d := ⟨_, rfl⟩
  have eX : El4 X := by rw [hX]; split <;> assumption
  have eZ : El4 Z := by rw [hZ]; split <;> assumption
  have eS : El4 S := by rw [hS]; split <;> assumption
  have eT : El4 T := by rw [hT]; split <;> assumption
  rw [← hX, ← hZ, ← hS, ← hT]
  have HX : Hid _ := hX
  have HZ : Hid _ := hZ
  have HS : Hid _ := hS
  have HT : Hid _ := hT
  clear hX hZ hS hT
  go_enter Try.func17, Try.ntmps17
  go_wp2_with (refine wpList_box_blk rfl 43 _ rfl (prC a b c d) (by rw [← hP]; rfl) ?_)
  intro w1 r1 b1 s1
  go_wp2_with (refine wpList_alloc_blk rfl 43 rfl (prC z4 z4 z4 z4) (allocP _) ?_)
  intro w2 r2 b2 s2
  replace r1 := r1.kept b2
  have hbw := stepB b1 b2
  have n1 : w.heap.size < w1.heap.size := by have := s1.out; omega
  clear b1 b2 s1 s2 hP
  go_wp2_with (first | refine wpList_load_part rfl 33 _ rfl rfl [] (cE a) (cE b ++ (cE c ++ cE d)) r1 (parts1 _ _ _ _) rfl Try.underlying33 rfl (infE ha) ?_ | refine wpList_load_part rfl 33 _ rfl rfl (frC a b) (cE c) (cE d) r1 (parts3 _ _ _ _) (frC_len ha hb) Try.underlying33 rfl (infE hc) ?_)
  refine (swap_any _ _ _ a c ha hc rfl rfl _).mono ?_
  rintro e w3 ⟨rfl, b3⟩
  rw [← HX.out, ← HS.out]
  replace r1 := r1.kept b3
  replace r2 := r2.kept b3
  replace hbw := stepB hbw b3
  clear b3
  go_wp2_with (refine wpList_store_part rfl 33 _ _ rfl rfl (cE X) rfl [] (cE a) (cE b ++ (cE c ++ cE d)) (prC X b c d) r1 (parts1 _ _ _ _) (parts1 _ _ _ _) rfl (by rw [cE_len ha, cE_len eX]) (infE ha) (cE_all _) ?_)
  intro w4 r4 hw4
  replace r2 := r2.wrote hw4 (by omega)
  replace hbw := hw4.below _ _ (Nat.le_refl _) hbw
  clear r1 hw4
  go_wp2_with (refine wpList_store_part rfl 33 _ _ rfl rfl (cE S) rfl (frC X b) (cE c) (cE d) (prC X b S d) r4 (parts3 _ _ _ _) (parts3 _ _ _ _) (frC_len eX hb) (by rw [cE_len hc, cE_len eS]) (infE hc) (cE_all _) ?_)
  intro w5 r5 hw5
  replace r2 := r2.wrote hw5 (by omega)
  replace hbw := hw5.below _ _ (Nat.le_refl _) hbw
  clear r4 hw5
  go_wp2_with (first | refine wpList_load_part rfl 33 _ rfl rfl (cE X) (cE b) (cE S ++ cE d) r5 (parts2 _ _ _ _) (cE_len eX) Try.underlying33 rfl (infE hb) ?_ | refine wpList_load_part rfl 33 _ rfl rfl (frC X b ++ cE S) (cE d) [] r5 (parts4 _ _ _ _) (by rw [List.length_append, frC_len eX hb, cE_len eS]) Try.underlying33 rfl (infE hd) ?_)
  refine (swap_any _ _ _ b d hb hd rfl rfl _).mono ?_
  rintro e w6 ⟨rfl, b6⟩
  rw [← HZ.out, ← HT.out]
  replace r5 := r5.kept b6
  replace r2 := r2.kept b6
  replace hbw := stepB hbw b6
  clear b6
  go_wp2_with (refine wpList_store_part rfl 33 _ _ rfl rfl (cE Z) rfl (cE X) (cE b) (cE S ++ cE d) (prC X Z S d) r5 (parts2 _ _ _ _) (parts2 _ _ _ _) (cE_len eX) (by rw [cE_len hb, cE_len eZ]) (infE hb) (cE_all _) ?_)
  intro w7 r7 hw7
  replace r2 := r2.wrote hw7 (by omega)
  replace hbw := hw7.below _ _ (Nat.le_refl _) hbw
  clear r5 hw7
  go_wp2_with (refine wpList_store_part rfl 33 _ _ rfl rfl (cE T) rfl (frC X Z ++ cE S) (cE d) [] (prC X Z S T) r7 (parts4 _ _ _ _) (parts4 _ _ _ _) (by rw [List.length_append, frC_len eX eZ, cE_len eS]) (by rw [cE_len hd, cE_len eT]) (infE hd) (cE_all _) ?_)
  intro w8 r8 hw8
  replace r2 := r2.wrote hw8 (by omega)
  replace hbw := hw8.below _ _ (Nat.le_refl _) hbw
  clear r7 hw8
  go_wp2_with (first | refine wpList_load_part rfl 43 _ rfl rfl [] (prC X Z S T) [] r8 (whole1 _) rfl Try.underlying43 rfl (infP eX eZ eS eT) ?_ | (refine wpList_store_part rfl 43 _ _ rfl rfl (prC X Z S T) rfl [] (prC z4 z4 z4 z4) [] (prC X Z S T) r2 (whole1 _) (whole1 _) rfl (by rw [prC_len eX eZ eS eT, prC_len z4_el z4_el z4_el z4_el]) (infP z4_el z4_el z4_el z4_el) (prC_all _ _ _ _) ?_; intro w9 r9 hw9))
  refine bodyPost_blk (p := 4) (ty := 43) rfl rfl rfl r9 Try.underlying43 rfl (infP eX eZ eS eT) ?_
  exact ⟨rfl, hw9.below _ _ (by omega) hbw⟩

/-- A binary digit as a number. -/
def dgI (b : Bool) : Int := if b then 1 else 0
theorem shr_byte (x : Nat) (i : Nat) (h : x < 256) (hi : i < 8) : bits .and .i64 (((x / 2 ^ i : Nat) : Int)) 1 = dgI (x / 2 ^ i % 2 == 1) := by
  have h1 : ∀ (x : Fin 256) (i : Fin 8), bits .and .i64 (((x.val / 2 ^ i.val : Nat) : Int)) 1 = dgI (x.val / 2 ^ i.val % 2 == 1) := by decide +kernel
  exact h1 ⟨x, h⟩ ⟨i, hi⟩

set_option maxRecDepth 100000 in
set_option maxHeartbeats 2000000 in
theorem digitAt_any (vn : Value) (n : List UInt8) (hn : n.length = 32) (i : Nat) (I : Int) (hI : I = (i : Int)) (hi : i < 256) (w : World) (hr : Rd w vn n) :
    Calls Try.prog 16 #[vn, .int .i64 I] w fun e w' => e = .returned (.int .i64 (dgI (bitB n i))) ∧ w' = w := by
  subst hI
  obtain ⟨b, off, cc, rfl, -, hcell, -⟩ := hr.cellAt (i := i / 8) (by rw [hn]; omega)
  have hlt := (n.getD (i / 8) 0).toNat_lt
  have HB : Hid (bitB n i = ((n.getD (i / 8) 0).toNat / 2 ^ (i % 8) % 2 == 1)) := rfl
  generalize (n.getD (i / 8) 0).toNat = x at hcell hlt HB
  have hq32 : (i : Int) / 8 < (n.length : Int) := by omega
  have hqn : i / 8 < n.length := by omega
  have e3 := shr_byte x (i % 8) hlt (by omega)
  go_enter Try.func16, Try.ntmps16
  go_wp2
  go_ret
  refine ⟨ret_int ?_, rfl⟩
  rw [HB.out, ← e3]
  have h1 : (x : Int) / 2 ^ (i % 8) = ((x / 2 ^ (i % 8) : Nat) : Int) := by simp
  have h2 : x / 2 ^ (i % 8) ≤ x := Nat.div_le_self _ _
  rw [h1]
  generalize x / 2 ^ (i % 8) = y at h2
  have h3 : wrap64 (y : Int) = (y : Int) := by unfold wrap64; omega
  rw [h3]
end Go.Proofs.Ythokfcmnijpkhab
