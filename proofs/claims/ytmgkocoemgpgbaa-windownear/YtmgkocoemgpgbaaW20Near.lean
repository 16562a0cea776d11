/- Numbers near to one another, in any order: the law's walk. -/
import Derived.Test.YtmgkocoemgpgbaaAw20
import Derived.Test.YtmgkocoemgpgbaaWnMath5
import Derived.Deep.DeepCutAuto
namespace Go.Proofs.Ytmgkocoemgpgbaa
open Go.ChangeShapes Go.WideShapes Go.ChangeAt Go.RowKit
set_option linter.unusedSimpArgs false
set_option linter.unusedVariables false

theorem and63 (x : Nat) (hx : x < 18446744073709551616) : bits .and .u64 (x : Int) 9223372036854775807 = ((x % 9223372036854775808 : Nat) : Int) := by
  have := u64_and_nat x 9223372036854775807 hx (by decide)
  rw [show (9223372036854775807 : Int) = ((9223372036854775807 : Nat) : Int) from rfl, this, show (9223372036854775807 : Nat) = 2 ^ 63 - 1 from rfl, Nat.and_two_pow_sub_one_eq_mod]
theorem and7 (x : UInt8) : bits .and .u8 (x.toNat : Int) 127 = ((x.toNat % 128 : Nat) : Int) := by
  have h : ∀ i : Fin 256, bits .and .u8 ((i.val : Nat) : Int) 127 = ((i.val % 128 : Nat) : Int) := by decide +kernel
  exact h ⟨x.toNat, x.toNat_lt⟩
/-- Which were seen, as cells. -/
def snV (n B : Nat) (l : List Nat) : List Value := (snB n B l).map Value.bool
theorem snV_get (n B : Nat) (l : List Nat) {k : Nat} (h : k < n) : (snV n B l)[k]? = some (.bool (decide (B + k ∈ l))) := by
  unfold snV
  rw [List.getElem?_map, snB_get n B l h]
  rfl
theorem snV_set (n : Nat) {B : Nat} {l : List Nat} (hl : ∀ x ∈ l, B ≤ x ∧ x < B + 128) (k : Nat) : (snV n B l).set k (.bool true) = snV n B (mkL l (B + k)).1 := by
  unfold snV
  rw [← List.map_set, snB_set n hl k]
theorem alloc_sn0 (w : World) : (Instr.alloc 38 true (.tuple #[])).run Try.prog w = .ok (.pointer (some ⟨w.heap.size, 0, none⟩)) (w.alloc (.cells ((List.replicate 256 false).map Value.bool).toArray 38)) := by kernel_rfl
theorem alloc_sn (B : Nat) (w : World) : (Instr.alloc 38 true (.tuple #[])).run Try.prog w = .ok (.pointer (some ⟨w.heap.size, 0, none⟩)) (w.alloc (.cells (snV 256 B []).toArray 38)) := by
  unfold snV
  rw [snB_none]
  exact alloc_sn0 w
/-- What stands behind the law while it runs: two windows, and what was seen. -/
structure Nr20 (w0 : World) (g g2 g3 B : Nat) (l l2 : List Nat) (w : World) : Prop where
  one : WnB w0 g l w
  two : WnB w0 g2 l2 w
  seen : BlkAt g3 38 (snV 256 B l) w
  new : w0.heap.size ≤ g3
  ne : g ≠ g2 ∧ g ≠ g3 ∧ g2 ≠ g3

theorem WnB.other {w0 w w' : World} {g k : Nat} {l : List Nat} (h : WnB w0 g l w) (c : Chg (fun i => i = k) w w') (hk : g ≠ k) (h0 : w0.heap.size ≤ k) : WnB w0 g l w' :=
  ⟨h.win.chg c hk, h.new, h.below.trans ⟨c.os, c.tape, c.output, c.size, fun i hi => c.block i (Nat.lt_of_lt_of_le hi h.below.size) (by omega)⟩⟩
/-- A number comes to the first window, and is told as seen. -/
theorem Nr20.mark {w0 w : World} {g g2 g3 B : Nat} {l l2 : List Nat} (h : Nr20 w0 g g2 g3 B l l2 w) (hl : ∀ x ∈ l, B ≤ x ∧ x < B + 128) (k : Nat) (hk : k < 128) (n : Nat) (hn : n = B + k) (h64 : n < 18446744073709551616) :
    Calls Try.prog 8 #[.pointer (some ⟨g, 0, none⟩), .int .u64 (n : Int)] w fun e w' => e = .returned (.int .i64 (if n ∈ l then 43 else 0)) ∧ w'.cell? ⟨g3, k, none⟩ = some (.bool (decide (n ∈ l))) ∧ w'.frozen? ⟨g3, k, none⟩ = false ∧ Nr20 w0 g g2 g3 B (mkL l n).1 l2 (w'.setCell ⟨g3, k, none⟩ (.bool true)) := by
  subst hn
  refine (h.one.mark (B + k) _ rfl h64).mono ?_
  rintro e w' ⟨rfl, h1, h2⟩
  have h3 := h.seen.chg h2 (fun e => h.ne.2.1 e.symm)
  have hc := Chg.of_wrote (Wrote.set g3 k w' (.bool true))
  refine ⟨by rw [mk_near hl (by omega)], by rw [h3.cell, snV_get _ _ _ (by omega)], h3.free k, h1.other hc h.ne.2.1 h.new, (h.two.other h2 (fun e => h.ne.1 e.symm) h.one.new).other hc h.ne.2.2 h.new, ?_, h.new, h.ne⟩
  rw [← snV_set 256 hl k]
  exact h3.set k _
/-- A number comes to the second one. -/
theorem Nr20.mark2 {w0 w : World} {g g2 g3 B : Nat} {l l2 : List Nat} (h : Nr20 w0 g g2 g3 B l l2 w) (n : Nat) (h64 : n < 18446744073709551616) :
    Calls Try.prog 8 #[.pointer (some ⟨g2, 0, none⟩), .int .u64 (n : Int)] w fun e w' => e = .returned (.int .i64 (mkL l2 n).2) ∧ Nr20 w0 g g2 g3 B l (mkL l2 n).1 w' := by
  refine (h.two.mark n _ rfl h64).mono ?_
  rintro e w' ⟨rfl, h1, h2⟩
  exact ⟨rfl, h.one.other h2 h.ne.1 h.two.new, h1, h.seen.chg h2 (fun e => h.ne.2.2 e.symm), h.new, h.ne⟩

set_option maxRecDepth 100000 in
set_option maxHeartbeats 8000000 in
theorem near_walk (A : Int) (hA : (Lit.int .u64 A).wf = true) (vs : Value) (st : List UInt8) (w : World) (hr : Rd w vs st) :
    Calls Try.prog 4 #[.int .u64 A, vs] w fun e w' => e = .returned (.bool true) ∧ Below w.heap.size w w' := by
  obtain ⟨x, rfl, hx⟩ := one20 hA
  obtain ⟨av, cv, rfl, hcs, hmx, -, -⟩ := id hr
  obtain ⟨B, hB⟩ : ∃ b : Nat, b = x % 9223372036854775808 := ⟨_, rfl⟩
  have eB := and63 x hx
  rw [← hB] at eB
  have hB63 : B < 9223372036854775808 := by omega
  obtain ⟨N, hN⟩ : ∃ N : Nat, N = st.length := ⟨_, rfl⟩
  have HN : Hid (N = st.length) := hN
  have HR : Hid (Rd w (.slice av N cv) st) := (by rw [hN]; exact hr : Rd w (.slice av N cv) st)
  rw [← hN] at hcs ⊢
  unfold maxLen at hmx
  clear hA hB hx hr hN
  go_enter Try.func4, Try.ntmps4
  go_wp2_with fail
  refine (awake_any w).mono ?_
  rintro e wa ⟨rfl, ba⟩
  have HB : Hid (Below w.heap.size w wa) := ba
  clear ba
  go_wp2_with (refine wpList_alloc_blk rfl 27 rfl (wnC 0 0 0) (alloc_wn _) ?_)
  intro w1 r1 b1 s1
  have hW := WnB.start HB.out r1 b1
  have hg := hW.win.lt
  generalize wa.heap.size = g at hW hg ⊢
  have HB1 : Hid (Below w.heap.size w w1) := hW.below
  have HW1 : Hid (WnB w g [] w1) := hW
  clear r1 b1 s1 HB hW
  go_wp2_with (refine wpList_alloc_blk rfl 27 rfl (wnC 0 0 0) (alloc_wn _) ?_)
  intro w2 r2 b2 s2
  have hW2 := WnB.start HB1.out r2 b2
  have hg2 := hW2.win.lt
  have HW2 : Hid (WnB w g [] w2 ∧ g ≠ w1.heap.size) := ⟨⟨HW1.out.win.kept b2, HW1.out.new, hW2.below⟩, by omega⟩
  generalize w1.heap.size = g2 at hW2 hg2 HW2 hg ⊢
  have HV2 : Hid (WnB w g2 [] w2) := hW2
  clear r2 b2 s2 HB1 hW2 HW1
  go_wp2_with (refine wpList_alloc_blk rfl 38 rfl (snV 256 B []) (alloc_sn B _) ?_)
  intro w3 r3 b3 s3
  have HS : Hid (Nr20 w g g2 w2.heap.size B [] [] w3) := ⟨⟨HW2.out.1.win.kept b3, HW2.out.1.new, stepB HW2.out.1.below b3⟩, ⟨HV2.out.win.kept b3, HV2.out.new, stepB HV2.out.below b3⟩, r3, HV2.out.below.size, HW2.out.2, by have := HW2.out.1.win.lt; omega, by omega⟩
  generalize w2.heap.size = g3 at HS ⊢
  clear r3 b3 s3 HW2 HV2 hg hg2
  have hNI : (N : Int) ≤ 9223372036854775807 := by omega
  have HNs : Hid (N ≤ cv ∧ cv ≤ 9223372036854775807) := ⟨hcs, hmx⟩
  clear hcs hmx
  go_upto_if 26 with fail
  go_cut [9] (fun nv wx => ∃ M : Nat, nv = .int .i64 (M : Int) ∧ M ≤ 300 ∧ M ≤ N ∧ w3 = wx)
  case first =>
    by_cases h3 : 300 < N
    focus
      have hd : decide ((300 : Int) < (N : Int)) = true := decide_eq_true (by omega)
      go_wp2
      go_meet
      exact ⟨300, rfl, by omega, by omega, rfl⟩
    focus
      have hd : decide ((300 : Int) < (N : Int)) = false := decide_eq_false (by omega)
      go_wp2
      go_meet
      exact ⟨N, rfl, by omega, by omega, rfl⟩
  case rest =>
  obtain ⟨M, rfl, hM3, hMN, rfl⟩ := hcut
  have HX : Hid (∃ xs : Nat → Nat, (∀ m, xs m < 128) ∧ ∀ m, xs m = (st.getD m 0).toNat % 128) := ⟨fun m => (st.getD m 0).toNat % 128, fun m => Nat.mod_lt _ (by decide), fun _ => rfl⟩
  obtain ⟨xs, hxs, hxe⟩ := HX.out
  have HXs : Hid (∀ m, xs m < 128) := hxs
  have HXe : Hid (∀ m, xs m = (st.getD m 0).toNat % 128) := hxe
  clear HX hxs hxe
  go_wp2
  go_loopw [10] (fun iv wr => ∃ (i : Nat) (l : List Nat), i ≤ M ∧ iv = .int .i64 (i : Int) ∧ Hid (Nr20 w g g2 g3 B l [] wr ∧ NrL B xs i l)) (fun iv _ => M - (intOf iv).toNat)
  case atStart => exact ⟨0, [], by omega, rfl, HS.out, NrL.start B xs⟩
  case round =>
    obtain ⟨i, l, hi, rfl, HI⟩ := hrel
    by_cases hlt : i < M
    · have hd : decide ((i : Int) < (M : Int)) = true := decide_eq_true (by omega)
      have hdN : decide (i < M) = true := decide_eq_true hlt
      have hiN : (i : Int) < (N : Int) := by omega
      have hiNn : i < N := by omega
      obtain ⟨bs, os, cap, ec, -, hc, -⟩ := (HR.out.kept HI.out.1.one.below).cellAt (i := i) (by rw [← HN.out]; omega)
      simp only [Value.slice.injEq] at ec
      obtain ⟨rfl, -, -⟩ := ec
      obtain ⟨k, hk⟩ : ∃ k, k = xs i := ⟨_, rfl⟩
      have hk128 : k < 128 := by rw [hk]; exact HXs.out i
      have c1 := and7 (st.getD i 0)
      rw [← HXe.out i, ← hk] at c1
      generalize (st.getD i 0).toNat = c at hc c1
      obtain ⟨n, hn⟩ : ∃ n : Nat, n = B + k := ⟨_, rfl⟩
      have e1 : IntKind.u64.wrap ((B : Int) + (k : Int)) = (n : Int) := by rw [IntKind.wrap_u64]; omega
      have e2 : IntKind.u64.wrap (k : Int) = (k : Int) := by rw [IntKind.wrap_u64]; omega
      have hk256 : (k : Int) < 256 := by omega
      have hk256N : k < 256 := by omega
      have hn64 : n < 18446744073709551616 := by omega
      have HSt : Hid (NrL B xs (i + 1) (mkL l n).1) := (by rw [hn, hk]; exact HI.out.2.step HXs.out : NrL B xs (i + 1) (mkL l n).1)
      have HMk : Hid _ := HI.out.1.mark (HI.out.2.near HXs.out) k hk128 n hn hn64
      clear hk hn hk128
      go_wp2_with fail
      refine Calls.mono HMk.out ?_
      rintro e w4 ⟨rfl, hc4, hf4, hN4⟩
      have HN4 : Hid _ := hN4
      have ei : IntKind.i64.wrap ((i : Int) + 1) = ((i + 1 : Nat) : Int) := by rw [IntWalk.i64_in _ (by omega)]; omega
      clear hN4 HMk HI HS
      by_cases hm : n ∈ l
      · rw [if_pos hm]
        rw [decide_eq_true hm] at hc4
        clear hm
        go_wp2
        go_roundw
        case rel => exact ⟨i + 1, _, by omega, by go_num, HN4.out, HSt.out⟩
        case measure => simp [intOf] <;> omega
      · rw [if_neg hm]
        rw [decide_eq_false hm] at hc4
        clear hm
        go_wp2
        go_roundw
        case rel => exact ⟨i + 1, _, by omega, by go_num, HN4.out, HSt.out⟩
        case measure => simp [intOf] <;> omega
    · have hie : i = M := by omega
      subst hie
      have hd : decide ((i : Int) < (i : Int)) = false := decide_eq_false (by omega)
      have hdN : decide (i < i) = false := decide_eq_false (by omega)
      have HI2 : Hid (Nr20 w g g2 g3 B l [] wr ∧ NrL B xs i l) := HI.out
      have HL : Hid (NrL B xs i l) := HI.out.2
      clear HI HS hi hlt
      have e0 : IntKind.i64.wrap ((i : Int) - 1) = (i : Int) - 1 := IntWalk.i64_in _ (by omega)
      go_wp2
      go_loopw [14] (fun iv wx => ∃ (j : Nat) (m : List Nat) (z : Int), j ≤ i ∧ iv = .int .i64 z ∧ z = (i : Int) - 1 - (j : Int) ∧ Hid (Nr20 w g g2 g3 B l m wx ∧ NrD B xs i j m)) (fun iv _ => (intOf iv + 1).toNat)
      case atStart => exact ⟨0, [], _, by omega, rfl, by omega, HI2.out.1, NrD.start B xs i⟩
      case round =>
        obtain ⟨j, m, z, hj, rfl, hz, HI⟩ := hrel
        by_cases hlt : j < i
        · obtain ⟨q, hq⟩ : ∃ q : Nat, q = i - 1 - j := ⟨_, rfl⟩
          have hzq : z = (q : Int) := by omega
          subst hzq
          have hqi : i = q + j + 1 := by omega
          have hd2 : decide ((0 : Int) ≤ (q : Int)) = true := decide_eq_true (by omega)
          have hiN : (q : Int) < (N : Int) := by omega
          have hiNn : q < N := by omega
          obtain ⟨bs, os, cap, ec, -, hc, -⟩ := (HR.out.kept HI.out.1.one.below).cellAt (i := q) (by rw [← HN.out]; omega)
          simp only [Value.slice.injEq] at ec
          obtain ⟨rfl, -, -⟩ := ec
          obtain ⟨k, hk⟩ : ∃ k, k = xs q := ⟨_, rfl⟩
          have hk128 : k < 128 := by rw [hk]; exact HXs.out q
          have c1 := and7 (st.getD q 0)
          rw [← HXe.out q, ← hk] at c1
          generalize (st.getD q 0).toNat = c at hc c1
          obtain ⟨n, hn⟩ : ∃ n : Nat, n = B + k := ⟨_, rfl⟩
          have e1 : IntKind.u64.wrap ((B : Int) + (k : Int)) = (n : Int) := by rw [IntKind.wrap_u64]; omega
          have e2 : IntKind.u64.wrap (k : Int) = (k : Int) := by rw [IntKind.wrap_u64]; omega
          have hn64 : n < 18446744073709551616 := by omega
          have HSt : Hid (NrD B xs i (j + 1) (mkL m n).1) := (by rw [hn, hk]; exact HI.out.2.step HXs.out hqi : NrD B xs i (j + 1) (mkL m n).1)
          have HMk : Hid _ := HI.out.1.mark2 n hn64
          have HJ : Hid (i = q + j + 1) := hqi
          have ei : IntKind.i64.wrap ((q : Int) - 1) = (q : Int) - 1 := IntWalk.i64_in _ (by omega)
          clear hk hn hk128 hqi hz hq
          go_wp2_with fail
          refine Calls.mono HMk.out ?_
          rintro e w4 ⟨rfl, hN4⟩
          have HN4 : Hid _ := hN4
          clear hN4 HMk HI
          go_wp2
          go_roundw
          case rel => exact ⟨j + 1, _, _, by omega, rfl, by have := HJ.out; omega, HN4.out, HSt.out⟩
          case measure => simp [intOf] <;> omega
        · have hzq : z = -1 := by omega
          have hje : j = i := by omega
          subst hzq hje
          have HE : Hid (∀ x, x ∈ l ↔ x ∈ m) := nr_same HL.out HI.out.2
          have HS5 : Hid (Nr20 w g g2 g3 B l m wr) := HI.out.1
          have HB5 : Hid (Below w.heap.size w wr) := HI.out.1.one.below
          have HTop : Hid _ := wtop_any g l wr HI.out.1.one.win
          have htop2 := wtop_any g2 m wr HI.out.1.two.win
          rw [← tpN_congr HE.out, ← some_congr HE.out] at htop2
          have HTop2 : Hid _ := htop2
          have HW5 : Hid (WnP g l wr ∧ WnP g2 m wr) := ⟨HI.out.1.one.win, HI.out.1.two.win⟩
          generalize tpN l = t at HTop HTop2
          generalize decide (0 < l.length) = qb at HTop HTop2
          clear HI HI2 hz hj hlt htop2 HS5 HL hd hdN e0
          go_wp2_with fail
          refine Calls.mono HTop.out ?_
          rintro e w5 ⟨rfl, rfl⟩
          go_wp2_with fail
          refine Calls.mono HTop2.out ?_
          rintro e w6 ⟨rfl, rfl⟩
          clear HTop HTop2
          go_wp2
          go_loop [19] (fun iv => ∃ k : Nat, k ≤ 128 ∧ iv = .int .i64 (k : Int)) (fun iv => 128 - (intOf iv).toNat)
          case atStart => exact ⟨0, by omega, rfl⟩
          case round =>
            obtain ⟨k, hk, rfl⟩ := hrel
            by_cases hlt : k < 128
            · have hd : decide ((k : Int) < 128) = true := decide_eq_true (by omega)
              obtain ⟨n, hn⟩ : ∃ n : Nat, n = B + k := ⟨_, rfl⟩
              have e1 : IntKind.u64.wrap ((B : Int) + (k : Int)) = (n : Int) := by rw [IntKind.wrap_u64]; omega
              have e2 : IntKind.u64.wrap (k : Int) = (k : Int) := by rw [IntKind.wrap_u64]; omega
              have hn64 : n < 18446744073709551616 := by omega
              have HC1 : Hid _ := wcheck_any g l n _ rfl hn64 _ HW5.out.1
              have hc2 := wcheck_any g2 m n _ rfl hn64 _ HW5.out.2
              rw [← cm_congr HE.out n] at hc2
              have HC2 : Hid _ := hc2
              have ei : IntKind.i64.wrap ((k : Int) + 1) = ((k + 1 : Nat) : Int) := by rw [IntWalk.i64_in _ (by omega)]; omega
              generalize cmE l n = R at HC1 HC2
              clear hn hc2
              go_wp2_with fail
              refine Calls.mono HC1.out ?_
              rintro e w7 ⟨rfl, rfl⟩
              go_wp2_with fail
              refine Calls.mono HC2.out ?_
              rintro e w8 ⟨rfl, rfl⟩
              go_wp2
              go_round
              case rel => exact ⟨k + 1, by omega, by go_num⟩
              case measure => simp [intOf] <;> omega
            · have hd : decide ((k : Int) < 128) = false := decide_eq_false (by omega)
              go_wp2
              go_ret
              exact ⟨by simp, HB5.out⟩
end Go.Proofs.Ytmgkocoemgpgbaa
