/- The walk of the statement on choosing one of two rows, and on rows of noughts, out of the contracts. -/
import Derived.Test.YticjhpclpealmaaF
import Derived.Test.YticjhpclpealmaaReg
namespace Go.Proofs.Yticjhpclpealmaa
open Go.ChangeShapes Go.WideShapes Go.ChangeAt Go.RowKit
set_option linter.unusedSimpArgs false
set_option linter.unusedVariables false

theorem zero_step (s x : UInt8) : decide (s ||| x = 0) = (decide (s = 0) && decide (x = 0)) := by
  rw [Bool.eq_iff_iff]; simp [u8_or_zero]

set_option maxHeartbeats 4000000 in
theorem selects_walk (bit : Int) (va vb : Value) (la lb : List UInt8) (w : World) (hra : Rd w va la) (hrb : Rd w vb lb) :
    Calls Try.prog 5 #[.int .i64 bit, va, vb] w fun e w' => e = .returned (.bool true) ∧ Below w.heap.size w w' := by
  obtain ⟨aa, capa, ea, ha2, ha3, _, _⟩ := id hra
  obtain ⟨ab, capb, eb, hb2, hb3, _, _⟩ := id hrb
  unfold maxLen at ha3 hb3
  have hcase : (2000 < (la.length : Int)) ∨ ((la.length : Int) ≤ 2000 ∧ 2000 < (lb.length : Int)) ∨ ((la.length : Int) ≤ 2000 ∧ (lb.length : Int) ≤ 2000 ∧ la.length ≠ lb.length) ∨ ((la.length : Int) ≤ 2000 ∧ (lb.length : Int) ≤ 2000 ∧ la.length = lb.length ∧ bit ≠ 0 ∧ bit ≠ 1) ∨
    ((la.length : Int) ≤ 2000 ∧ (lb.length : Int) ≤ 2000 ∧ la.length = lb.length ∧ bit = 0) ∨ ((la.length : Int) ≤ 2000 ∧ (lb.length : Int) ≤ 2000 ∧ la.length = lb.length ∧ bit = 1) := by omega
  subst ea eb
  have Hra : Hid (Rd w (.slice aa la.length capa) la) := hra
  have Hrb : Hid (Rd w (.slice ab lb.length capb) lb) := hrb
  clear hra hrb
  rcases hcase with h1 | ⟨h1, h2⟩ | ⟨h1, h2, h3⟩ | ⟨h1, h2, h3, h4, h5⟩ | ⟨h1, h2, h3, rfl⟩ | ⟨h1, h2, h3, rfl⟩
  · go_enter Try.func5, Try.ntmps5
    go_wp2_with fail
    refine (awake_any _).mono ?_
    rintro e w1 ⟨rfl, hB1⟩
    go_wp2
    go_ret
    exact ⟨rfl, hB1⟩
  · go_enter Try.func5, Try.ntmps5
    go_wp2_with fail
    refine (awake_any _).mono ?_
    rintro e w1 ⟨rfl, hB1⟩
    go_wp2
    go_ret
    exact ⟨rfl, hB1⟩
  · go_enter Try.func5, Try.ntmps5
    go_wp2_with fail
    refine (awake_any _).mono ?_
    rintro e w1 ⟨rfl, hB1⟩
    have hraW := Hra.out.kept hB1
    have hrbW := Hrb.out.kept hB1
    have e1 : ((la.length : Int) != (lb.length : Int)) = true := by simp; omega
    have H3 : Hid (la.length ≠ lb.length) := h3
    clear h3
    go_wp2_with fail
    refine (select_no bit _ _ la lb _ hraW hrbW (.inl H3.out)).mono ?_
    rintro e w' ⟨rfl, rfl⟩
    go_wp2_with fail
    go_loop [9, 10] (fun z i => ∃ (k : Nat) (zb : Bool), k ≤ la.length ∧ z = .bool zb ∧ i = .int .i64 k ∧ Hid (zb = decide (orL (la.take k) = 0))) (fun _ i => la.length - (intOf i).toNat)
    case atStart => exact ⟨0, true, Nat.zero_le _, rfl, rfl, rfl⟩
    case round =>
      obtain ⟨k, zb, hk, rfl, rfl, HZ⟩ := hrel
      by_cases hlt : k < la.length
      · obtain ⟨b, off, cap', ea, _, hc, _⟩ := hraW.cellAt hlt
        simp only [Value.slice.injEq] at ea
        obtain ⟨rfl, _, rfl⟩ := ea
        have HT : Hid _ := orL_take_succ la k hlt
        generalize la.getD k 0 = x at hc HT
        have HN : Hid _ := nat0_beq x
        have g1 : (k : Int) < la.length := by omega
        have hrel2 : Hid (∀ z2 : Bool, z2 = (zb && decide (x = 0)) → z2 = decide (orL (la.take (k + 1)) = 0)) := by
          intro z2 hz
          rw [hz, HZ.out, HT.out, zero_step]
        cases zb with
        | true =>
          go_wp2
          go_round
          case rel => exact ⟨k + 1, _, by omega, rfl, by go_num, hrel2.out _ (by rw [Bool.true_and]; exact HN.out)⟩
          case measure => simp [intOf]; omega
        | false =>
          go_wp2
          go_round
          case rel => exact ⟨k + 1, false, by omega, rfl, by go_num, hrel2.out _ (by simp)⟩
          case measure => simp [intOf]; omega
      · have hzb : zb = decide (orL la = 0) := by
          have h := HZ.out
          rw [List.take_of_length_le (by omega)] at h
          exact h
        subst hzb
        clear HZ
        go_wp2_with fail
        refine (zero_any _ la _ hraW).mono ?_
        rintro e w' ⟨rfl, rfl⟩
        generalize decide (orL la = 0) = zb
        have hne : (zb != zb) = false := by cases zb <;> rfl
        go_wp2
        go_ret
        exact ⟨rfl, hB1⟩
  · go_enter Try.func5, Try.ntmps5
    go_wp2_with fail
    refine (awake_any _).mono ?_
    rintro e w1 ⟨rfl, hB1⟩
    have hraW := Hra.out.kept hB1
    have hrbW := Hrb.out.kept hB1
    have e1 : ((la.length : Int) != (lb.length : Int)) = false := by simp; omega
    have e2 : (bit != 0) = true := by simpa using h4
    have e3 : (bit != 1) = true := by simpa using h5
    have H3 : Hid (la.length = lb.length ∧ bit ≠ 0 ∧ bit ≠ 1) := ⟨h3, h4, h5⟩
    clear h3 h4 h5
    go_wp2_with fail
    refine (select_no bit _ _ la lb _ hraW hrbW (.inr H3.out)).mono ?_
    rintro e w' ⟨rfl, rfl⟩
    go_wp2_with fail
    go_loop [9, 10] (fun z i => ∃ (k : Nat) (zb : Bool), k ≤ la.length ∧ z = .bool zb ∧ i = .int .i64 k ∧ Hid (zb = decide (orL (la.take k) = 0))) (fun _ i => la.length - (intOf i).toNat)
    case atStart => exact ⟨0, true, Nat.zero_le _, rfl, rfl, rfl⟩
    case round =>
      obtain ⟨k, zb, hk, rfl, rfl, HZ⟩ := hrel
      by_cases hlt : k < la.length
      · obtain ⟨b, off, cap', ea, _, hc, _⟩ := hraW.cellAt hlt
        simp only [Value.slice.injEq] at ea
        obtain ⟨rfl, _, rfl⟩ := ea
        have HT : Hid _ := orL_take_succ la k hlt
        generalize la.getD k 0 = x at hc HT
        have HN : Hid _ := nat0_beq x
        have g1 : (k : Int) < la.length := by omega
        have hrel2 : Hid (∀ z2 : Bool, z2 = (zb && decide (x = 0)) → z2 = decide (orL (la.take (k + 1)) = 0)) := by
          intro z2 hz
          rw [hz, HZ.out, HT.out, zero_step]
        cases zb with
        | true =>
          go_wp2
          go_round
          case rel => exact ⟨k + 1, _, by omega, rfl, by go_num, hrel2.out _ (by rw [Bool.true_and]; exact HN.out)⟩
          case measure => simp [intOf]; omega
        | false =>
          go_wp2
          go_round
          case rel => exact ⟨k + 1, false, by omega, rfl, by go_num, hrel2.out _ (by simp)⟩
          case measure => simp [intOf]; omega
      · have hzb : zb = decide (orL la = 0) := by
          have h := HZ.out
          rw [List.take_of_length_le (by omega)] at h
          exact h
        subst hzb
        clear HZ
        go_wp2_with fail
        refine (zero_any _ la _ hraW).mono ?_
        rintro e w' ⟨rfl, rfl⟩
        generalize decide (orL la = 0) = zb
        have hne : (zb != zb) = false := by cases zb <;> rfl
        go_wp2
        go_ret
        exact ⟨rfl, hB1⟩
  · go_enter Try.func5, Try.ntmps5
    go_wp2_with fail
    refine (awake_any _).mono ?_
    rintro e w1 ⟨rfl, hB1⟩
    have hra1 := Hra.out.kept hB1
    have hrb1 := Hrb.out.kept hB1
    have e1 : ((la.length : Int) != (lb.length : Int)) = false := by simp; omega
    have H3 : Hid (la.length = lb.length) := h3
    clear h3
    go_wp2_with fail
    refine (select_yes 0 0 _ _ la lb la _ hra1 hrb1 H3.out (by omega) (.inl ⟨rfl, rfl, rfl⟩)).mono ?_
    rintro e w2 ⟨v8, rfl, hN8⟩
    have hraW := hra1.kept hN8.2
    have hrbW := hrb1.kept hN8.2
    have hlen8 : la.length ≤ 2000 := by omega
    have hO8 := hN8.1
    have hR8 := hN8.rd
    obtain ⟨a8, cap8, e8, hx2, hx3, _, _⟩ := hN8.rd
    subst e8
    go_wp2_with fail
    go_loop [9, 10] (fun z i => ∃ (k : Nat) (zb : Bool), k ≤ la.length ∧ z = .bool zb ∧ i = .int .i64 k ∧ Hid (zb = decide (orL (la.take k) = 0))) (fun _ i => la.length - (intOf i).toNat)
    case atStart => exact ⟨0, true, Nat.zero_le _, rfl, rfl, rfl⟩
    case round =>
      obtain ⟨k, zb, hk, rfl, rfl, HZ⟩ := hrel
      by_cases hlt : k < la.length
      · obtain ⟨b, off, cap', ea, _, hc, _⟩ := hraW.cellAt hlt
        simp only [Value.slice.injEq] at ea
        obtain ⟨rfl, _, rfl⟩ := ea
        have HT : Hid _ := orL_take_succ la k hlt
        generalize la.getD k 0 = x at hc HT
        have HN : Hid _ := nat0_beq x
        have g1 : (k : Int) < la.length := by omega
        have hrel2 : Hid (∀ z2 : Bool, z2 = (zb && decide (x = 0)) → z2 = decide (orL (la.take (k + 1)) = 0)) := by
          intro z2 hz
          rw [hz, HZ.out, HT.out, zero_step]
        cases zb with
        | true =>
          go_wp2
          go_round
          case rel => exact ⟨k + 1, _, by omega, rfl, by go_num, hrel2.out _ (by rw [Bool.true_and]; exact HN.out)⟩
          case measure => simp [intOf]; omega
        | false =>
          go_wp2
          go_round
          case rel => exact ⟨k + 1, false, by omega, rfl, by go_num, hrel2.out _ (by simp)⟩
          case measure => simp [intOf]; omega
      · have hzb : zb = decide (orL la = 0) := by
          have h := HZ.out
          rw [List.take_of_length_le (by omega)] at h
          exact h
        subst hzb
        clear HZ
        go_wp2_with fail
        refine (zero_any _ la _ hraW).mono ?_
        rintro e w' ⟨rfl, rfl⟩
        generalize decide (orL la = 0) = zb
        have hne : (zb != zb) = false := by cases zb <;> rfl
        have hca := conv_any hraW
        have hcb := conv_any hrbW
        have hcx := conv_any hR8
        have hs0 : ∀ a : List UInt8, (⟨a.toArray⟩ : ByteArray).toList = a := str_toList
        go_wp2_with fail
        clear hca hcb hcx hR8
        go_loopw [14] (fun i wr => ∃ j : Nat, j ≤ la.length ∧ i = .int .i64 j ∧ (∃ l' : List UInt8, l'.length = la.length ∧ wr.ownsRow w1.heap.size 5 1 (.slice a8 la.length cap8) l'.length (l'.map bv)) ∧ Below w1.heap.size w1 wr) (fun i _ => la.length - (intOf i).toNat)
        case atStart => exact ⟨0, Nat.zero_le _, rfl, ⟨_, rfl, hO8⟩, hN8.2⟩
        case round =>
          obtain ⟨j, hj, rfl, ⟨l3, hl3, ho3⟩, hBr⟩ := hrel
          by_cases hlt2 : j < la.length
          · obtain ⟨g, ea, hg, hcap, hc, hf, hst⟩ := own_at (by rw [hl3]) ho3 hlt2
            subst ea
            generalize l3.getD j 0 = x at hc
            have HX : Hid _ := byte_xor x 255
            have HST : Hid _ := hst
            clear hst ho3 hO8 hN8
            go_wp2
            go_roundw
            case rel =>
              refine ⟨j + 1, by omega, by go_num, ⟨l3.set j (x ^^^ 255), by simp [hl3], HST.out _ _ (by simpa using HX.out)⟩, hBr.setCell hg _⟩
            case measure => simp [intOf]; omega
          · have hca := conv_any (hra1.kept hBr)
            clear ho3 hO8 hN8
            go_wp2
            go_ret
            exact ⟨rfl, bstep hB1 hBr⟩
  · go_enter Try.func5, Try.ntmps5
    go_wp2_with fail
    refine (awake_any _).mono ?_
    rintro e w1 ⟨rfl, hB1⟩
    have hra1 := Hra.out.kept hB1
    have hrb1 := Hrb.out.kept hB1
    have e1 : ((la.length : Int) != (lb.length : Int)) = false := by simp; omega
    have H3 : Hid (la.length = lb.length) := h3
    clear h3
    go_wp2_with fail
    refine (select_yes 1 255 _ _ la lb lb _ hra1 hrb1 H3.out (by omega) (.inr ⟨rfl, rfl, rfl⟩)).mono ?_
    rintro e w2 ⟨v8, rfl, hN8⟩
    have hraW := hra1.kept hN8.2
    have hrbW := hrb1.kept hN8.2
    have hlen8 : lb.length ≤ 2000 := by omega
    have hO8 := hN8.1
    have hR8 := hN8.rd
    obtain ⟨a8, cap8, e8, hx2, hx3, _, _⟩ := hN8.rd
    subst e8
    go_wp2_with fail
    go_loop [9, 10] (fun z i => ∃ (k : Nat) (zb : Bool), k ≤ la.length ∧ z = .bool zb ∧ i = .int .i64 k ∧ Hid (zb = decide (orL (la.take k) = 0))) (fun _ i => la.length - (intOf i).toNat)
    case atStart => exact ⟨0, true, Nat.zero_le _, rfl, rfl, rfl⟩
    case round =>
      obtain ⟨k, zb, hk, rfl, rfl, HZ⟩ := hrel
      by_cases hlt : k < la.length
      · obtain ⟨b, off, cap', ea, _, hc, _⟩ := hraW.cellAt hlt
        simp only [Value.slice.injEq] at ea
        obtain ⟨rfl, _, rfl⟩ := ea
        have HT : Hid _ := orL_take_succ la k hlt
        generalize la.getD k 0 = x at hc HT
        have HN : Hid _ := nat0_beq x
        have g1 : (k : Int) < la.length := by omega
        have hrel2 : Hid (∀ z2 : Bool, z2 = (zb && decide (x = 0)) → z2 = decide (orL (la.take (k + 1)) = 0)) := by
          intro z2 hz
          rw [hz, HZ.out, HT.out, zero_step]
        cases zb with
        | true =>
          go_wp2
          go_round
          case rel => exact ⟨k + 1, _, by omega, rfl, by go_num, hrel2.out _ (by rw [Bool.true_and]; exact HN.out)⟩
          case measure => simp [intOf]; omega
        | false =>
          go_wp2
          go_round
          case rel => exact ⟨k + 1, false, by omega, rfl, by go_num, hrel2.out _ (by simp)⟩
          case measure => simp [intOf]; omega
      · have hzb : zb = decide (orL la = 0) := by
          have h := HZ.out
          rw [List.take_of_length_le (by omega)] at h
          exact h
        subst hzb
        clear HZ
        go_wp2_with fail
        refine (zero_any _ la _ hraW).mono ?_
        rintro e w' ⟨rfl, rfl⟩
        generalize decide (orL la = 0) = zb
        have hne : (zb != zb) = false := by cases zb <;> rfl
        have hca := conv_any hraW
        have hcb := conv_any hrbW
        have hcx := conv_any hR8
        have hs0 : ∀ a : List UInt8, (⟨a.toArray⟩ : ByteArray).toList = a := str_toList
        go_wp2_with fail
        clear hca hcb hcx hR8
        go_loopw [14] (fun i wr => ∃ j : Nat, j ≤ lb.length ∧ i = .int .i64 j ∧ (∃ l' : List UInt8, l'.length = lb.length ∧ wr.ownsRow w1.heap.size 5 1 (.slice a8 lb.length cap8) l'.length (l'.map bv)) ∧ Below w1.heap.size w1 wr) (fun i _ => lb.length - (intOf i).toNat)
        case atStart => exact ⟨0, Nat.zero_le _, rfl, ⟨_, rfl, hO8⟩, hN8.2⟩
        case round =>
          obtain ⟨j, hj, rfl, ⟨l3, hl3, ho3⟩, hBr⟩ := hrel
          by_cases hlt2 : j < lb.length
          · obtain ⟨g, ea, hg, hcap, hc, hf, hst⟩ := own_at (by rw [hl3]) ho3 hlt2
            subst ea
            generalize l3.getD j 0 = x at hc
            have HX : Hid _ := byte_xor x 255
            have HST : Hid _ := hst
            clear hst ho3 hO8 hN8
            go_wp2
            go_roundw
            case rel =>
              refine ⟨j + 1, by omega, by go_num, ⟨l3.set j (x ^^^ 255), by simp [hl3], HST.out _ _ (by simpa using HX.out)⟩, hBr.setCell hg _⟩
            case measure => simp [intOf]; omega
          · have hca := conv_any (hra1.kept hBr)
            clear ho3 hO8 hN8
            go_wp2
            go_ret
            exact ⟨rfl, bstep hB1 hBr⟩
end Go.Proofs.Yticjhpclpealmaa
