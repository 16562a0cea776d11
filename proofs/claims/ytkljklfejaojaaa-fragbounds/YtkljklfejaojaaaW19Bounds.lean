/- No more is kept than may be: the law's walk. -/
import Derived.Test.YtkljklfejaojaaaSc19
namespace Go.Proofs.Ytkljklfejaojaaa
open Go.ChangeShapes Go.WideShapes Go.ChangeAt Go.RowKit
set_option linter.unusedSimpArgs false
set_option linter.unusedVariables false

set_option maxRecDepth 100000 in
set_option maxHeartbeats 16000000 in
theorem bounds_walk (peer all age : Int) (ha : (Lit.int .u64 age).wf = true) (hpw : peer ≤ 9223372036854775807) (haw : all ≤ 9223372036854775807) (v : Value) (ks : List Ac) (hks : ∀ q ∈ ks, q.now < 18446744073709551616) (w : World) (hr : AcF w v ks) :
    Calls Try.prog 5 #[.int .i64 peer, .int .i64 all, .int .u64 age, v] w fun e w' => e = .returned (.bool true) ∧ Below w.heap.size w w' := by
  obtain ⟨age, rfl, -⟩ := u64_of ha
  obtain ⟨av, cv, rfl, hc1, hc2, -⟩ := id hr
  unfold maxLen at hc2
  obtain ⟨N, hN⟩ : ∃ N, N = ks.length := ⟨_, rfl⟩
  rw [← hN] at hr hc1 ⊢
  have HR : Hid (AcF w (.slice av N cv) ks) := hr
  have HN : Hid (N = ks.length) := hN
  have HKs : Hid (∀ q ∈ ks, q.now < 18446744073709551616) := hks
  obtain ⟨pm, hpm⟩ : ∃ pm, pm = lsN peer := ⟨_, rfl⟩
  obtain ⟨am, ham⟩ : ∃ am, am = lsN all := ⟨_, rfl⟩
  have hmx : max peer 0 = pm := by rw [hpm, lsN]; split <;> omega
  have hmy : max all 0 = am := by rw [ham, lsN]; split <;> omega
  obtain ⟨B0, hB0⟩ : ∃ B0, B0 = nwF peer all age := ⟨_, rfl⟩
  have HB0 : Hid (B0.pm = pm ∧ B0.am = am ∧ LimB B0 ∧ InB B0 ∧ B0.l = []) := by
    show _ ∧ _
    rw [hB0]
    exact ⟨hpm.symm, ham.symm, LimB.nw hpw haw _, InB.start _ _ _, rfl⟩
  have HNew : Hid (∀ W, Calls Try.prog 11 #[.agg #[.int .i64 peer, .int .i64 all, .int .u64 (age : Int)]] W fun e w' => ∃ gb, e = .returned (pV gb) ∧ W.heap.size ≤ gb ∧ BlkAt gb 63 (buK B0 (.slice none 0 0)) w' ∧ Below W.heap.size W w') := by
    show ∀ W, _
    intro W
    rw [hB0]
    exact new_any peer all age W
  clear hr hN hks hpm ham hB0 ha hpw haw
  go_enter Try.func5, Try.ntmps5
  go_wp2_with fail
  refine (awake_any w).mono ?_
  rintro e w1 ⟨rfl, b1⟩
  have HB1 : Hid (Below w.heap.size w w1) := b1
  have hbl := build_l19c age peer all w1
  clear b1
  go_wp2_with fail
  refine (HNew.out w1).mono ?_
  rintro e w2 ⟨gb, rfl, hgb, hbk, b2⟩
  have HP2 : Hid (PlB w1.heap.size gb pm am 0 B0 w2) := ⟨BuP.start hbk hgb HB0.out.2.2.2.2, (by rw [HB0.out.2.2.2.2]; exact (fun e he => by cases he)), by rw [HB0.out.2.2.2.2]; exact Nat.le_refl _, HB0.out.2.2.1, HB0.out.1, HB0.out.2.1⟩
  have HB2 : Hid (Below w1.heap.size w1 w2) := b2
  clear hgb hbk b2 hbl HNew
  go_wp2
  go_loopw [12] (fun iv wx => ∃ (i : Nat) (bf : Bf), i ≤ 40 ∧ iv = .int .i64 (i : Int) ∧ Hid (PlB w1.heap.size gb pm am i bf wx) ∧ Hid (InB bf) ∧ Hid (Below w1.heap.size w1 wx)) (fun iv _ => 40 - (intOf iv).toNat)
  case atStart => exact ⟨0, B0, by omega, rfl, HP2, HB0.out.2.2.2.1, HB2.out⟩
  case round =>
    obtain ⟨i, bf, hi, rfl, HP, HI, HBx⟩ := hrel
    clear HP2 HB2
    by_cases hin : i < N ∧ i < 40
    · obtain ⟨h1, h2⟩ := hin
      have d1 : decide ((i : Int) < (N : Int)) = true := decide_eq_true (by omega)
      have d2 : decide ((i : Int) < 40) = true := decide_eq_true (by omega)
      have hiI : (i : Int) < (N : Int) := by omega
      have hik : i < ks.length := by rw [← HN.out]; exact h1
      obtain ⟨b, off, rfl, hrg⟩ := (HR.out.kept (HB1.out.trans (HBx.out.mono HB1.out.size))).at hik
      obtain ⟨q, hq⟩ : ∃ q, q = ks[i] := ⟨_, rfl⟩
      have hnow : q.now < 18446744073709551616 := HKs.out q (by rw [hq]; exact List.getElem_mem hik)
      rw [← hq] at hrg
      have HNow : Hid (q.now < 18446744073709551616) := hnow
      have HRg : Hid (wr.rangeAt b (off + i * 8) (acL q)) := hrg
      clear hq hnow hrg hik
      by_cases hbig : 2000 < q.size
      · have d5 : decide ((2000 : Int) < q.size) = true := decide_eq_true hbig
        go_wp2_with (first
          | refine wpList_load_mid rfl 43 _ rfl b (off + i * 8) rfl (acL q) _ HRg.out Try.underlying43 rfl (acInfo q) ?_
          | (refine wpList_alloc_blk rfl 43 rfl acZ (alloc_acF _) ?_; intro wa ra ba sa)
          | (refine wpList_store_part rfl 43 _ _ rfl rfl (acL q) rfl [] acZ [] (acL q) ra rfl rfl rfl rfl (acInfo q) (acL_one q) ?_; intro w4 r4 hw4; have c5 : w4.cell? ⟨_, 5, none⟩ = some (.int .i64 q.size) := BlkAt.cell r4 5; have c1 : w4.cell? ⟨_, 1, none⟩ = some (.int .i64 q.peer) := BlkAt.cell r4 1; clear ra))
        have HBf : Hid (Below w.heap.size w w4) := HB1.out.trans ((stepB HBx.out (hw4.below _ _ (Nat.le_refl _) ba)).mono HB1.out.size)
        clear r4 hw4 ba sa c1 c5
        go_ret
        exact ⟨rfl, HBf.out⟩
      have d5 : decide ((2000 : Int) < q.size) = false := decide_eq_false hbig
      by_cases hneg : q.size < 0
      · have d6 : decide (q.size < 0) = true := decide_eq_true hneg
        go_wp2_with (first
          | refine wpList_load_mid rfl 43 _ rfl b (off + i * 8) rfl (acL q) _ HRg.out Try.underlying43 rfl (acInfo q) ?_
          | (refine wpList_alloc_blk rfl 43 rfl acZ (alloc_acF _) ?_; intro wa ra ba sa)
          | (refine wpList_store_part rfl 43 _ _ rfl rfl (acL q) rfl [] acZ [] (acL q) ra rfl rfl rfl rfl (acInfo q) (acL_one q) ?_; intro w4 r4 hw4; have c5 : w4.cell? ⟨_, 5, none⟩ = some (.int .i64 q.size) := BlkAt.cell r4 5; have c1 : w4.cell? ⟨_, 1, none⟩ = some (.int .i64 q.peer) := BlkAt.cell r4 1; clear ra))
        have HBf : Hid (Below w.heap.size w w4) := HB1.out.trans ((stepB HBx.out (hw4.below _ _ (Nat.le_refl _) ba)).mono HB1.out.size)
        clear r4 hw4 ba sa c1 c5
        go_ret
        exact ⟨rfl, HBf.out⟩
      have d6 : decide (q.size < 0) = false := decide_eq_false hneg
      obtain ⟨X, hX, hand⟩ := and_small q.peer 3 (by decide)
      have hand2 : bits .and .i64 q.peer 3 = (X : Int) := hand
      have hX4 : (X : Int) < 4 := by omega
      have HX : Hid (X ≤ 3) := hX
      obtain ⟨S, hS⟩ : ∃ S : Nat, q.size = (S : Int) := ⟨q.size.toNat, by omega⟩
      have HS : Hid (q.size = (S : Int) ∧ S ≤ 2000) := ⟨hS, by omega⟩
      clear hbig hneg hS hand hX
      go_wp2_with (first
        | refine wpList_load_mid rfl 43 _ rfl b (off + i * 8) rfl (acL q) _ HRg.out Try.underlying43 rfl (acInfo q) ?_
        | (refine wpList_alloc_blk rfl 43 rfl acZ (alloc_acF _) ?_; intro wa ra ba sa)
        | (refine wpList_store_part rfl 43 _ _ rfl rfl (acL q) rfl [] acZ [] (acL q) ra rfl rfl rfl rfl (acInfo q) (acL_one q) ?_; intro w4 r4 hw4; have c5 : w4.cell? ⟨_, 5, none⟩ = some (.int .i64 q.size) := BlkAt.cell r4 5; have c1 : w4.cell? ⟨_, 1, none⟩ = some (.int .i64 q.peer) := BlkAt.cell r4 1; clear ra)
        | (refine wpList_names rfl rfl ?_; intro w5 r5 b5; replace c1 := cellF c1 b5; have cN : w5.cell? ⟨_, X, none⟩ = some (.string ⟨(nmF X).toArray⟩) := (BlkAt.cell r5 X).trans (nmC_at HX.out)))
      obtain ⟨g13, hg13⟩ : ∃ g, g = wr.heap.size := ⟨_, rfl⟩
      rw [← hg13] at r4 hw4 c5 c1 ⊢
      have h45 : Below wr.heap.size wr w5 := stepB (hw4.below _ _ (by omega) ba) b5
      have r13 : BlkAt g13 43 (acL q) w5 := r4.kept b5
      have HP5 : Hid (PlB w1.heap.size gb pm am i bf w5) := HP.out.kept h45
      have HB5 : Hid (Below w1.heap.size w1 w5) := stepB HBx.out h45
      have HI40 : Hid (i < 40) := h2
      obtain ⟨R, hR⟩ : ∃ R, R = adF bf (nmF X) q.msg q.part q.parts (nzF S) q.now := ⟨_, rfl⟩
      have HRe : Hid (R = adF bf (nmF X) q.msg q.part q.parts (nzF S) q.now) := hR
      have HIR : Hid (InB R.1) := by show InB _; rw [hR]; exact HI.out.adF _ _ _ _ _ _
      clear hg13 r4 hw4 ba sa r5 b5 h45 c1 c5 cN hand2 hX4 hR HP HI HBx
      have hS : AcB g13 q w5.drew := AcB.kept (show AcB g13 q w5 from r13) (Below.refl _ _).drew
      have hB : Below w5.heap.size w5 w5.drew := (Below.refl _ _).drew
      clear r13
      refine wpS_begin (AcB g13 q) (by kernel_rfl) ?_
      refine sU_ hS 0 rfl ⟨_, by intro W hW; go_simp <;> with_reducible rfl, ?_⟩
      try simp only [Act.put, pA_, pB_, pC_]
      refine sU_ hS 1 rfl ⟨_, by intro W hW; go_simp <;> with_reducible rfl, ?_⟩
      try simp only [Act.put, pA_, pB_, pC_]
      refine sU_ hS 2 rfl ⟨_, by intro W hW; go_simp <;> with_reducible rfl, ?_⟩
      try simp only [Act.put, pA_, pB_, pC_]
      refine sU_ hS 3 rfl ⟨_, by intro W hW; have hcW : W.cell? ⟨g13, 2, none⟩ = some (.int .i64 q.msg) := hW.cell 2; go_simp <;> with_reducible rfl, ?_⟩
      try simp only [Act.put, pA_, pB_, pC_]
      refine sU_ hS 4 rfl ⟨_, by intro W hW; go_simp <;> with_reducible rfl, ?_⟩
      try simp only [Act.put, pA_, pB_, pC_]
      refine sU_ hS 5 rfl ⟨_, by intro W hW; have hcW : W.cell? ⟨g13, 3, none⟩ = some (.int .i64 q.part) := hW.cell 3; go_simp <;> with_reducible rfl, ?_⟩
      try simp only [Act.put, pA_, pB_, pC_]
      refine sU_ hS 6 rfl ⟨_, by intro W hW; go_simp <;> with_reducible rfl, ?_⟩
      try simp only [Act.put, pA_, pB_, pC_]
      refine sU_ hS 7 rfl ⟨_, by intro W hW; have hcW : W.cell? ⟨g13, 4, none⟩ = some (.int .i64 q.parts) := hW.cell 4; go_simp <;> with_reducible rfl, ?_⟩
      try simp only [Act.put, pA_, pB_, pC_]
      refine sU_ hS 8 rfl ⟨_, by intro W hW; go_simp <;> with_reducible rfl, ?_⟩
      try simp only [Act.put, pA_, pB_, pC_]
      refine sU_ hS 9 rfl ⟨_, by intro W hW; have hcW : W.cell? ⟨g13, 5, none⟩ = some (.int .i64 (S : Int)) := (by rw [← HS.out.1]; exact hW.cell 5); go_simp <;> with_reducible rfl, ?_⟩
      try simp only [Act.put, pA_, pB_, pC_]
      refine sU_ hS 11 rfl ⟨_, by intro W hW; go_simp <;> with_reducible rfl, ?_⟩
      try simp only [Act.put, pA_, pB_, pC_]
      refine sU_ hS 12 rfl ⟨_, by intro W hW; have hcW : W.cell? ⟨g13, 7, none⟩ = some (.int .u64 (q.now : Int)) := hW.cell 7; go_simp <;> with_reducible rfl, ?_⟩
      try simp only [Act.put, pA_, pB_, pC_]
      refine sD_ 10 fun K hK => ?_
      refine wp_make19 _ _ 22 rfl Try.underlying22 info5 S (by rfl) (by rfl) (by have := HS.out.2; omega) ?_
      intro g5 wm hg5 hN
      have HG5 : Hid (w5.heap.size ≤ g5 ∧ g5 < wm.heap.size) := ⟨Nat.le_trans hB.size hg5, (hN.1.lt g5 rfl).2⟩
      have HNw : Hid (Rd wm (.slice (some ⟨g5, 0, none⟩) S S) (nzF S)) := hN.rd
      replace hB := stepB hB hN.2
      replace hS := hS.kept hN.2
      clear hN hg5
      refine hK.out _ _ hS ?_
      clear hK K
      try simp only [Act.put, pA_, pB_, pC_]
      refine sD_ 13 fun K hK => ?_
      go_simp
      refine (HP5.out.add HB5.out.size hB (by have := HI40.out; omega) (fun k => k = g5) (fun k hk => by rw [hk]; exact HG5.out) (nmF X) (Nat.le_trans (nmF_len X) (by decide)) q.msg q.part q.parts (nzF S) _ q.now HNow.out HNw.out (OutK.blk 0 S S _)).mono ?_
      rw [← HRe.out]
      rintro e w7 ⟨v7, rfl, -, hP7, c7, -⟩
      replace hS := hS.cp c7
      refine hK.out _ _ hS ?_
      clear hK K
      try simp only [Act.put, pA_, pB_, pC_]
      refine wpS_done (by kernel_rfl) ?_
      have HP7 : Hid (PlB w1.heap.size gb pm am (i + 1) R.1 w7) := hP7
      have HB7 : Hid (Below w1.heap.size w1 w7) := Chg.below (HB5.out.trans (hB.mono HB5.out.size)) c7.chg (Nat.le_trans HB5.out.size hB.size) fun k _ hk => hk.1
      have HHe : Hid (∀ W, Below w7.heap.size w7 W → Calls Try.prog 22 #[pV gb, .string ⟨(nmF X).toArray⟩] W fun e w' => e = .returned (.int .i64 (hdB R.1.l (nmF X) : Int)) ∧ Below W.heap.size W w') := fun W hW => bheld_any _ (nmF X) gb _ W (HP7.out.bu.kept hW) HP7.out.en (by have := HP7.out.len; have := HI40.out; omega)
      have HTo : Hid (∀ W, Below w7.heap.size w7 W → Calls Try.prog 19 #[pV gb] W fun e w' => e = .returned (.int .i64 (ttB R.1.l : Int)) ∧ Below W.heap.size W w') := fun W hW => btotal_any _ gb _ W (HP7.out.bu.kept hW) HP7.out.en (by have := HP7.out.len; have := HI40.out; omega)
      have hp1 := HIR.out.pm (nmF X)
      rw [HP7.out.pm] at hp1
      have hp2 := HIR.out.am
      rw [HP7.out.am] at hp2
      have hp3 := hd_le_tt R.1.l (nmF X)
      generalize hdB R.1.l (nmF X) = hd at HHe hp1 hp3
      generalize ttB R.1.l = tt at HTo hp2 hp3
      have dh : decide (pm < (hd : Int)) = false := decide_eq_false (by omega)
      have dt : decide (am < (tt : Int)) = false := decide_eq_false (by omega)
      have dl : decide ((tt : Int) < (hd : Int)) = false := decide_eq_false (by omega)
      have dl2 : decide (tt < hd) = false := decide_eq_false (by omega)
      have i40 : i < 40 := HI40.out
      clear hP7 c7 hB hS HNw HG5 HP5 HB5
      go_wp2_with fail
      refine (HHe.out _ (Below.refl _ _)).mono ?_
      rintro e w8 ⟨rfl, b8⟩
      have HB8 : Hid (Below w7.heap.size w7 w8) := b8
      clear b8
      go_wp2_with fail
      refine (HTo.out _ HB8.out).mono ?_
      rintro e w9 ⟨rfl, b9⟩
      have HB9 : Hid (Below w7.heap.size w7 w9) := stepB HB8.out b9
      clear b9 HB8
      go_wp2_with fail
      refine (HTo.out _ HB9.out).mono ?_
      rintro e w10 ⟨rfl, b10⟩
      have HB10 : Hid (Below w7.heap.size w7 w10) := stepB HB9.out b10
      clear b10 HB9
      go_wp2_with fail
      refine (HHe.out _ HB10.out).mono ?_
      rintro e w11 ⟨rfl, b11⟩
      have HB11 : Hid (Below w7.heap.size w7 w11) := stepB HB10.out b11
      have HP11 : Hid (PlB w1.heap.size gb pm am (i + 1) R.1 w11) := HP7.out.kept HB11.out
      have HB1b : Hid (Below w1.heap.size w1 w11) := HB7.out.trans (HB11.out.mono HB7.out.size)
      clear b11 HB10 hp1 hp2 hp3
      go_wp2
      go_roundw
      case rel => exact ⟨i + 1, R.1, by omega, by go_num, HP11, HIR, HB1b⟩
      case measure => simp [intOf] <;> omega
    · have HBf : Hid (Below w.heap.size w wr) := HB1.out.trans (HBx.out.mono HB1.out.size)
      have hends : (decide ((i : Int) < (N : Int)) = false ∧ (N : Int) ≤ (i : Int)) ∨ (decide ((i : Int) < (N : Int)) = true ∧ (i : Int) < (N : Int) ∧ decide ((i : Int) < 40) = false ∧ decide (i < 40) = false ∧ (40 : Int) ≤ (i : Int)) := by
        by_cases h : i < N
        · exact .inr ⟨decide_eq_true (by omega), by omega, decide_eq_false (by omega), decide_eq_false (by omega), by omega⟩
        · exact .inl ⟨decide_eq_false (by omega), by omega⟩
      clear HP HI HBx hin hi
      rcases hends with ⟨hd, hd2⟩ | ⟨hd, hd2, hd3, hd4, hd5⟩
      · have hd9 := hd
        go_wp2_with fail
        refine (expire_none 1 _).mono ?_
        rintro e we ⟨rfl, be⟩
        have HBe : Hid (Below w.heap.size w we) := stepB HBf.out be
        clear be
        go_wp2_with fail
        refine (drop_none [97] _).mono ?_
        rintro e wg ⟨rfl, bg⟩
        have HBg : Hid (Below w.heap.size w wg) := stepB HBe.out bg
        clear bg HBe
        go_wp2_with fail
        refine (add_none [97] 0 0 1 _ 1 1 0 _).mono ?_
        rintro e wh ⟨rfl, rfl⟩
        go_wp2_with fail
        refine (total_none _).mono ?_
        rintro e wj ⟨rfl, rfl⟩
        go_wp2_with fail
        refine (held_none [97] _).mono ?_
        rintro e wk ⟨rfl, rfl⟩
        go_wp2_with fail
        refine (count_none _).mono ?_
        rintro e wl ⟨rfl, rfl⟩
        go_wp2
        go_ret
        exact ⟨rfl, stepB HBg.out (growB _)⟩
      · have hd9 := hd
        go_wp2_with fail
        refine (expire_none 1 _).mono ?_
        rintro e we ⟨rfl, be⟩
        have HBe : Hid (Below w.heap.size w we) := stepB HBf.out be
        clear be
        go_wp2_with fail
        refine (drop_none [97] _).mono ?_
        rintro e wg ⟨rfl, bg⟩
        have HBg : Hid (Below w.heap.size w wg) := stepB HBe.out bg
        clear bg HBe
        go_wp2_with fail
        refine (add_none [97] 0 0 1 _ 1 1 0 _).mono ?_
        rintro e wh ⟨rfl, rfl⟩
        go_wp2_with fail
        refine (total_none _).mono ?_
        rintro e wj ⟨rfl, rfl⟩
        go_wp2_with fail
        refine (held_none [97] _).mono ?_
        rintro e wk ⟨rfl, rfl⟩
        go_wp2_with fail
        refine (count_none _).mono ?_
        rintro e wl ⟨rfl, rfl⟩
        go_wp2
        go_ret
        exact ⟨rfl, stepB HBg.out (growB _)⟩
end Go.Proofs.Ytkljklfejaojaaa
