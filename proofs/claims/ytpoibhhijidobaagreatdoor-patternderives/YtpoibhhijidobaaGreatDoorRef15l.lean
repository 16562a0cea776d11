/- Whether a pattern's secrets are of both kinds: contracts of the reference of layer 15, twelfth part. -/
import Derived.Test.YtpoibhhijidobaaGreatDoorRef15k
import Derived.Test.YtpoibhhijidobaaGreatDoorQa
namespace Go.Proofs.YtpoibhhijidobaaGreatDoor
open Go.ChangeShapes Go.WideShapes Go.ChangeAt Go.RowKit
set_option linter.unusedSimpArgs false
set_option linter.unusedVariables false

set_option maxRecDepth 100000 in
set_option maxHeartbeats 8000000 in
theorem hybrid15_any (p : Ptn) (hp : p.name.length ≤ 1000000) (A : Array Value) (vi vl : Value) (hA : A = (ptC p vi vl).toArray) (w : World) (hR : PtR w p vi vl) :
    Calls Tryz.prog 22 #[.agg A] w fun e w' => e = .returned (.bool (hyB p)) ∧ Below w.heap.size w w' := by
  have HR : Hid (PtR w p vi vl) := hR
  have HP : Hid (p.name.length ≤ 1000000) := hp
  clear hR hp
  go_enter Tryz.func22, Tryz.ntmps22
  go_wp2_with (refine wpList_box_blk rfl 33 _ rfl (ptC p vi vl) (by rw [← hA]; rfl) ?_)
  intro w1 hB b1 s1
  have hB0 : BlkAt w.heap.size 33 ([] ++ ptC p vi vl ++ []) w1 := by rw [List.append_nil]; exact hB
  have hR1 := HR.out.kept b1
  have hbw := b1
  clear hB b1 s1 hA
  go_wp2_with (refine wpList_load_blk rfl 33 _ rfl (g := w.heap.size) (o := 0) (by go_simp; done) hB0 rfl Tryz.underlying33 rfl (ptInfo _ _ _) ?_)
  refine (secrets15_any p HP.out _ _ _ rfl _ hR1).mono ?_
  rintro e w2 ⟨v, LK, rfl, hL, hO⟩
  have hS := ScR.of_own hO
  replace hbw := stepB hbw hO.below
  obtain ⟨av, cv, rfl, hn2, hn3⟩ := hS.row.len
  unfold maxLen at hn3
  obtain ⟨n, hn⟩ : ∃ n : Nat, n = LK.length := ⟨_, rfl⟩
  rw [← hn] at hn2 ⊢
  have HN : Hid (n = LK.length) := hn
  have HS : Hid (ScR w2 (.slice av LK.length cv) LK) := hS
  have HH : Hid ((anT (fun e => decide (e.1.1 < 7)) LK LK.length && anT (fun e => decide (8 < e.1.1)) LK LK.length) = hyB p) := by
    show _ = _
    rw [anT_all, anT_all]
    unfold hyB
    rw [← hL, ← any_keys (fun e => decide (e.1 < 7)), ← any_keys (fun e => decide (8 < e.1))]
  clear hO hS hB0 hR1 hL hn
  go_wp2
  go_loopw [4, 5, 6] (fun av bv iv wx => ∃ (i : Nat) (a b : Bool), i ≤ n ∧ iv = .int .i64 (i : Int) ∧ av = .bool a ∧ bv = .bool b ∧ Hid (a = anT (fun e => decide (e.1.1 < 7)) LK i) ∧ Hid (b = anT (fun e => decide (8 < e.1.1)) LK i) ∧ wx = w2) (fun _ _ iv _ => n - (intOf iv).toNat)
  case atStart => exact ⟨0, false, false, by omega, rfl, rfl, rfl, (by show _ = _; rfl), (by show _ = _; rfl), rfl⟩
  case round =>
    obtain ⟨i, a, b, hi, rfl, rfl, rfl, HA, HB, rfl⟩ := hrel
    by_cases hlt : i < n
    · have hd : decide ((i : Int) < (n : Int)) = true := decide_eq_true (by omega)
      have hiI : (i : Int) < (n : Int) := by omega
      have hlk : i < LK.length := by rw [← HN.out]; exact hlt
      obtain ⟨gb, ob, rfl, hc, -⟩ := HS.out.at i hlk
      obtain ⟨T, hT⟩ : ∃ T : Int, T = LK[i].1.1 := ⟨_, rfl⟩
      rw [← hT] at hc
      have HA2 : Hid (∀ x, x = (a || decide (T < 7)) → x = anT (fun e => decide (e.1.1 < 7)) LK (i + 1)) := by
        intro x hx
        rw [hx, anT_next _ _ _ hlk, HA.out, hT]
      have HB2 : Hid (∀ x, x = (b || decide (8 < T)) → x = anT (fun e => decide (8 < e.1.1)) LK (i + 1)) := by
        intro x hx
        rw [hx, anT_next _ _ _ hlk, HB.out, hT]
      have hc' := hc
      rw [Nat.mul_comm] at hc'
      clear hT HA HB
      cases a
      · cases b
        · go_wp2
          go_roundw
          case rel => exact ⟨i + 1, _, _, by omega, by go_num, rfl, rfl, HA2.out _ rfl, HB2.out _ rfl, trivial⟩
          case measure => simp [intOf] <;> omega
        · go_wp2
          go_roundw
          case rel => exact ⟨i + 1, _, _, by omega, by go_num, rfl, rfl, HA2.out _ rfl, HB2.out _ rfl, trivial⟩
          case measure => simp [intOf] <;> omega
      · cases b
        · go_wp2
          go_roundw
          case rel => exact ⟨i + 1, _, _, by omega, by go_num, rfl, rfl, HA2.out _ rfl, HB2.out _ rfl, trivial⟩
          case measure => simp [intOf] <;> omega
        · go_wp2
          go_roundw
          case rel => exact ⟨i + 1, _, _, by omega, by go_num, rfl, rfl, HA2.out _ rfl, HB2.out _ rfl, trivial⟩
          case measure => simp [intOf] <;> omega
    · have hd : decide ((i : Int) < (n : Int)) = false := decide_eq_false (by omega)
      have hiI : (n : Int) ≤ (i : Int) := by omega
      have HE : Hid ((a && b) = hyB p) := by
        show _ = _
        rw [HA.out, HB.out, show i = LK.length by have := HN.out; omega]
        exact HH.out
      clear HA HB HH
      cases a
      · go_wp2
        go_ret
        exact ⟨by rw [← HE.out]; rfl, hbw⟩
      · go_wp2
        go_ret
        exact ⟨by rw [← HE.out]; rfl, hbw⟩
end Go.Proofs.YtpoibhhijidobaaGreatDoor
