/- What the document's own Xor and Join answer, and Zero: contracts for whatever reads as bytes. -/
import Derived.Test.YticjhpclpealmaaB
import Derived.Deep.RegionHeld3
namespace Go.Proofs.Yticjhpclpealmaa
open Go.ChangeShapes Go.WideShapes Go.ChangeAt Go.RowKit

set_option maxHeartbeats 1000000 in
theorem refxor1_any (x y : UInt8) (w : World) :
    Calls Try.prog 21 #[.int .i64 (x.toNat : Int), .int .i64 (y.toNat : Int)] w fun e w' => e = .returned (.int .i64 ((x ^^^ y).toNat : Int)) ∧ w' = w := by
  have hx := x.toNat_lt
  have hy := y.toNat_lt
  go_enter Try.func21, Try.ntmps21
  go_wp2
  go_loop [0, 1, 5, 6, 7] (fun a b n p i => ∃ k A B N P : Nat, k ≤ 8 ∧ Hid (A = x.toNat / 2 ^ k ∧ B = y.toNat / 2 ^ k ∧ N = (x.toNat ^^^ y.toNat) % 2 ^ k ∧ P = 2 ^ k) ∧ a = .int .i64 A ∧ b = .int .i64 B ∧ n = .int .i64 N ∧ p = .int .i64 P ∧ i = .int .i64 k) (fun _ _ _ _ i => 8 - (intOf i).toNat)
  case atStart => exact ⟨0, x.toNat, y.toNat, 0, 1, by omega, by simp [Hid, Nat.mod_one], rfl, rfl, rfl, rfl, rfl⟩
  case round =>
    obtain ⟨k, A, B, N, P, hk, H, rfl, rfl, rfl, rfl, rfl⟩ := hrel
    by_cases hlt : k < 8
    · have hA : (A : Int) ≤ 255 := by have := H.out.1; have := Nat.div_le_self x.toNat (2 ^ k); omega
      have hB : (B : Int) ≤ 255 := by have := H.out.2.1; have := Nat.div_le_self y.toNat (2 ^ k); omega
      have hP : (P : Int) ≤ 256 := by have := H.out.2.2.2; have := pow2_le k hk; omega
      have hN : (N : Int) ≤ 255 := by
        have h1 := H.out.2.2.1; have h2 := Nat.mod_le (x.toNat ^^^ y.toNat) (2 ^ k)
        have h3 := (x ^^^ y).toNat_lt
        rw [UInt8.toNat_xor] at h3
        omega
      have hA0 : (0 : Int) ≤ (A : Int) := by omega
      have hB0 : (0 : Int) ≤ (B : Int) := by omega
      have HS : Hid _ := xor_mod_succ x.toNat y.toNat k
      by_cases hab : A % 2 = B % 2
      · have hne : (((A : Int) % 2) != ((B : Int) % 2)) = false := by simp; omega
        go_wp2
        go_round
        case rel => 
          refine ⟨k + 1, A / 2, B / 2, N, P * 2, by omega, ?_, by go_num, by go_num, rfl, by go_num, by go_num⟩
          obtain ⟨h1, h2, h3, h4⟩ := H.out
          refine ⟨by rw [h1, div2_succ], by rw [h2, div2_succ], ?_, by rw [h4, pow2_succ]⟩
          rw [HS.out, if_pos (by rw [← h1, ← h2]; exact hab), ← h3]; rfl
        case measure => simp [intOf]; omega
      · have hne : (((A : Int) % 2) != ((B : Int) % 2)) = true := by simp; omega
        go_wp2
        go_round
        case rel => 
          refine ⟨k + 1, A / 2, B / 2, N + P, P * 2, by omega, ?_, by go_num, by go_num, by go_num, by go_num, by go_num⟩
          obtain ⟨h1, h2, h3, h4⟩ := H.out
          refine ⟨by rw [h1, div2_succ], by rw [h2, div2_succ], ?_, by rw [h4, pow2_succ]⟩
          rw [HS.out, if_neg (by rw [← h1, ← h2]; exact hab), ← h3, ← h4]
        case measure => simp [intOf]; omega
    · have hk8 : k = 8 := by omega
      go_wp2
      go_ret
      refine ⟨ret_int ?_, rfl⟩
      rw [H.out.2.2.1, hk8]
      try rw [UInt8.toNat_xor]
      have h3 := (x ^^^ y).toNat_lt
      rw [UInt8.toNat_xor] at h3
      rw [Nat.mod_eq_of_lt h3]

theorem refxor1_int (X Y : Int) (x y : UInt8) (w : World) (hX : X = (x.toNat : Int)) (hY : Y = (y.toNat : Int)) :
    Calls Try.prog 21 #[.int .i64 X, .int .i64 Y] w fun e w' => e = .returned (.int .i64 ((x ^^^ y).toNat : Int)) ∧ w' = w := by
  subst hX hY; exact refxor1_any x y w

set_option maxHeartbeats 2000000 in
theorem refxor_any (va vb : Value) (la lb : List UInt8) (w : World) (ha : Rd w va la) (hb : Rd w vb lb) (hmx : la.length ≤ 140737488355327) :
    Calls Try.prog 16 #[va, vb] w fun e w' => ∃ v, e = .returned v ∧ New 5 w v (xorL la lb) w' := by
  obtain ⟨aa, capa, ea, ha2, ha3, ha4, ha5⟩ := id ha
  obtain ⟨ab, capb, eb, hb2, hb3, hb4, hb5⟩ := id hb
  have Ha : Hid (Rd w va la) := ha
  have Hb : Hid (Rd w vb lb) := hb
  clear ha hb ha5 hb5
  subst ea eb
  unfold maxLen at ha3 hb3
  go_enter Try.func16, Try.ntmps16
  go_wp2
  go_loopw [5, 6] (fun v i wr => ∃ j : Nat, j ≤ la.length ∧ j ≤ lb.length ∧ i = .int .i64 j ∧ New 5 w v ((xorL la lb).take j) wr) (fun _ i _ => la.length - (intOf i).toNat)
  case atStart => exact ⟨0, Nat.zero_le _, Nat.zero_le _, rfl, New.start w⟩
  case round =>
    obtain ⟨j, hja, hjb, rfl, hN⟩ := hrel
    by_cases hlt : j < la.length ∧ j < lb.length
    · obtain ⟨h1, h2⟩ := hlt
      obtain ⟨ba, oa, ca, ea, _, hca0, hba⟩ := Ha.out.cellAt (i := j) h1
      obtain ⟨bb, ob, cb, eb, _, hcb0, hbb⟩ := Hb.out.cellAt (i := j) h2
      simp only [Value.slice.injEq] at ea eb
      obtain ⟨rfl, _, rfl⟩ := ea
      obtain ⟨rfl, _, rfl⟩ := eb
      have g1 : (j : Int) < la.length := by omega
      have g2 : (j : Int) < lb.length := by omega
      have hX := xorL_take_succ la lb j h1 h2
      generalize la.getD j 0 = x at hX hca0
      generalize lb.getD j 0 = y at hX hcb0
      have HX : Hid _ := hX
      clear hX
      have hca : wr.cell? ⟨ba, oa + j, none⟩ = some (.int .u8 (x.toNat : Int)) := (hN.2.cell (p := ⟨ba, oa + j, none⟩) hba).trans hca0
      have hcb : wr.cell? ⟨bb, ob + j, none⟩ = some (.int .u8 (y.toNat : Int)) := (hN.2.cell (p := ⟨bb, ob + j, none⟩) hbb).trans hcb0
      obtain ⟨b1, b1'⟩ := byte_range x
      obtain ⟨b2, b2'⟩ := byte_range y
      obtain ⟨b3, b3'⟩ := byte_range (x ^^^ y)
      go_wp2_with fail
      go_region_held3 (fun w' => w'.cell? ⟨ba, oa + j, none⟩ = some (.int .u8 (x.toNat : Int)) ∧ w'.cell? ⟨bb, ob + j, none⟩ = some (.int .u8 (y.toNat : Int)))
        (first | exact ⟨(hN2.2.cell (p := ⟨ba, oa + j, none⟩) hba).trans hca0, (hN2.2.cell (p := ⟨bb, ob + j, none⟩) hbb).trans hcb0⟩ | go_keep)
        (first
          | (go_at_call 21; refine (refxor1_int _ _ x y _ (wrapb_i64 x) (wrapb_i64 y)).mono ?_; rintro e w' ⟨rfl, rfl⟩)
          | (refine step_append_new (w := w) rfl _ _ 22 rfl 5 Try.underlying22 info5 _ _ rfl (hN.drew.alloc _) _ _ rfl (Rd.lit1 (x ^^^ y) (by rw [← UInt8.toNat_xor]; exact wrapb_u8 _)) (by simp [xorL]; omega) ?_; intro v2 w2 hN2 hG2))
      go_wp2
      go_roundw
      case rel => exact ⟨j + 1, by omega, by omega, by go_num, by rw [HX.out]; exact hN2⟩
      case measure => simp [intOf]; omega
    · have hno : ¬ (j : Int) < la.length ∨ ((j : Int) < la.length ∧ ¬ (j : Int) < lb.length) := by omega
      have hfin : (xorL la lb).take j = xorL la lb := List.take_of_length_le (by rw [xorL_length]; omega)
      rw [hfin] at hN
      clear hfin
      rcases hno with h1 | ⟨h1, h2⟩
      all_goals
        go_wp2
        go_ret
        exact ⟨_, rfl, hN⟩

set_option maxHeartbeats 400000 in
theorem refjoin_any (va vb : Value) (la lb : List UInt8) (w : World) (ha : Rd w va la) (hb : Rd w vb lb) (hmx : la.length + lb.length ≤ 140737488355327) :
    Calls Try.prog 20 #[va, vb] w fun e w' => ∃ v, e = .returned v ∧ New 5 w v (la ++ lb) w' := by
  go_enter Try.func20, Try.ntmps20
  go_wp2_with (at_builtin; go_must (refine wpList_append_new (w := w) rfl _ _ 22 rfl 5 Try.underlying22 info5 _ _ rfl (New.start w) va la rfl ha (by simp; omega) ?_))
  intro v1 w1 hN1 _
  have hb1 : Rd w1 vb lb := hb.kept hN1.2
  go_wp2_with (at_builtin; go_must (refine wpList_append_new (w := w) rfl _ _ 22 rfl 5 Try.underlying22 info5 v1 _ rfl hN1 vb lb rfl hb1 (by omega) ?_))
  intro v2 w2 hN2 _
  go_wp2
  go_ret
  exact ⟨_, rfl, by simpa using hN2⟩

set_option maxHeartbeats 400000 in
theorem zero_any (v : Value) (l : List UInt8) (w : World) (hr : Rd w v l) :
    Calls Try.prog 19 #[v] w fun e w' => e = .returned (.bool (decide (orL l = 0))) ∧ w' = w := by
  obtain ⟨a, cap, rfl, h2, h3, h4, h5⟩ := hr
  unfold maxLen at h3
  go_enter Try.func19, Try.ntmps19
  go_wp2
  go_loop [3, 7] (fun x i => ∃ (k : Nat) (s : UInt8), k ≤ l.length ∧ i = .int .i64 k ∧ x = .int .u8 (s.toNat : Int) ∧ Hid (s = orL (l.take k))) (fun _ i => l.length - (intOf i).toNat)
  case atStart => exact ⟨0, 0, Nat.zero_le _, rfl, rfl, rfl⟩
  case round =>
    obtain ⟨k, s, hk, rfl, rfl, HS⟩ := hrel
    by_cases hlt : k < l.length
    · rcases h5 with rfl | ⟨b, off, rfl, hc⟩
      · simp at hlt
      have hck := hc k hlt
      have HT : Hid _ := orL_take_succ l k hlt
      generalize l.getD k 0 = y at hck HT
      have HO : Hid _ := byte_or s y
      clear hc h4
      go_wp2
      go_round
      case rel => exact ⟨k + 1, s ||| y, by omega, by go_num, val_int HO.out, by rw [HS.out]; exact HT.out.symm⟩
      case measure => simp [intOf]; omega
    · have HE : Hid ((((s.toNat : Nat) : Int) == 0) = decide (s = 0)) := nat0_beq s
      go_wp2
      go_ret
      refine ⟨?_, rfl⟩
      have : l.take k = l := List.take_of_length_le (by omega)
      rw [this] at HS
      rw [← HS.out]
      exact congrArg (fun b => Ending.returned (.bool b)) HE.out
end Go.Proofs.Yticjhpclpealmaa
