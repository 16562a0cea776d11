/- A buffer under any script of calls: the law's walk (w19p.py writes it). -/
import Derived.Test.YtkljklfejaojaaaSc19
import Derived.Test.YtkljklfejaojaaaRk19
namespace Go.Proofs.Ytkljklfejaojaaa
open Go.ChangeShapes Go.WideShapes Go.ChangeAt Go.RowKit
set_option linter.unusedSimpArgs false
set_option linter.unusedVariables false

theorem LimB.list {b : Bf} (h : LimB b) (l : List Ent) : LimB ⟨b.pm, b.am, b.age, l⟩ := h
theorem EnR.nilP (w : World) {l : List Ent} (h : l = []) : EnR w (.slice none 0 0) l := by
  subst h
  exact ⟨[], rfl, RdE.nil w 4, fun k hk => by simp at hk⟩

set_option maxRecDepth 100000 in
set_option maxHeartbeats 32000000 in
theorem plays_walk (peer all age : Int) (ha : (Lit.int .u64 age).wf = true) (hpw : peer ≤ 9223372036854775807) (haw : all ≤ 9223372036854775807) (v : Value) (ks : List Ac) (hks : ∀ q ∈ ks, q.now < 18446744073709551616) (w : World) (hr : AcF w v ks) :
    Calls Try.prog 4 #[.int .i64 peer, .int .i64 all, .int .u64 age, v] w fun e w' => e = .returned (.bool true) ∧ Below w.heap.size w w' := by
  obtain ⟨age, rfl, -⟩ := u64_of ha
  obtain ⟨av, cv, rfl, hc1, hc2, -⟩ := id hr
  unfold maxLen at hc2
  obtain ⟨N, hN⟩ : ∃ N, N = ks.length := ⟨_, rfl⟩
  rw [← hN] at hr hc1 ⊢
  have HR : Hid (AcF w (.slice av N cv) ks) := hr
  have HN : Hid (N = ks.length) := hN
  have HKs : Hid (∀ q ∈ ks, q.now < 18446744073709551616) := hks
  obtain ⟨pm, hpm⟩ : ∃ pm, pm = lsN peer := ⟨_, rfl⟩
  obtain ⟨am, ham⟩ : ∃ am, am = lsN all := ⟨_, rfl⟩
  obtain ⟨B0, hB0⟩ : ∃ B0, B0 = nwF peer all age := ⟨_, rfl⟩
  have HB0 : Hid (B0.pm = pm ∧ B0.am = am ∧ LimB B0 ∧ B0.l = []) := by
    show _ ∧ _
    rw [hB0]
    exact ⟨hpm.symm, ham.symm, LimB.nw hpw haw _, rfl⟩
  have HNew : Hid (∀ W, Calls Try.prog 11 #[.agg #[.int .i64 peer, .int .i64 all, .int .u64 (age : Int)]] W fun e w' => ∃ gb, e = .returned (pV gb) ∧ W.heap.size ≤ gb ∧ BlkAt gb 63 (buK B0 (.slice none 0 0)) w' ∧ Below W.heap.size W w') := by
    show ∀ W, _
    intro W
    rw [hB0]
    exact new_any peer all age W
  have HNr : Hid (∀ W, Calls Try.prog 12 #[.int .i64 peer, .int .i64 all, .int .u64 (age : Int)] W fun r w' => r = .returned (.agg (bfD B0 (.slice none 0 0)).toArray) ∧ Below W.heap.size W w') := by
    show ∀ W, _
    intro W
    rw [hB0]
    exact new19_any peer all age W
  clear hr hN hks hpm ham hB0 ha hpw haw
  go_enter Try.func4, Try.ntmps4
  go_wp2_with fail
  refine (awake_any w).mono ?_
  rintro e w1 ⟨rfl, b1⟩
  have HB1 : Hid (Below w.heap.size w w1) := b1
  have hbl := build_l19c age peer all w1
  clear b1
  go_wp2_with fail
  refine (HNew.out w1).mono ?_
  rintro e w2 ⟨gb, rfl, hgb, hbk, b2⟩
  have HP2 : Hid (PlB w1.heap.size gb pm am 0 B0 w2) := ⟨BuP.start hbk hgb HB0.out.2.2.2, (by rw [HB0.out.2.2.2]; exact (fun e he => by cases he)), by rw [HB0.out.2.2.2]; exact Nat.le_refl _, HB0.out.2.2.1, HB0.out.1, HB0.out.2.1⟩
  have HB2 : Hid (Below w1.heap.size w1 w2) := b2
  clear hgb hbk b2 hbl HNew
  go_wp2_with fail
  refine (HNr.out w2).mono ?_
  rintro e w3 ⟨rfl, b3⟩
  have HP3 : Hid (PlB w1.heap.size gb pm am 0 B0 w3) := HP2.out.kept b3
  have HB3 : Hid (Below w1.heap.size w1 w3) := stepB HB2.out b3
  clear b3 HP2 HB2 HNr
  go_wp2_with (first
    | (refine wpList_alloc_blk rfl 40 rfl zbD (alloc_bf _) ?_; intro wa ra ba sa)
    | (refine wpList_store_part rfl 40 _ _ rfl rfl (bfD B0 (.slice none 0 0)) rfl [] zbD [] (bfD B0 (.slice none 0 0)) ra rfl rfl rfl rfl (infoBf B0 (.slice none 0 0)) (bfD_one _ _ _ _) ?_; intro w4 r4 hw4))
  have b34 : Below w3.heap.size w3 w4 := hw4.below _ _ (Nat.le_refl _) ba
  obtain ⟨g11, hg11⟩ : ∃ g, g = w3.heap.size := ⟨_, rfl⟩
  rw [← hg11] at r4 ⊢
  have HG4 : Hid (BlkAt g11 40 (bfD B0 (.slice none 0 0)) w4) := r4
  have HP4 : Hid (PlB w1.heap.size gb pm am 0 B0 w4) := HP3.out.kept b34
  have HB4 : Hid (Below w1.heap.size w1 w4) := stepB HB3.out b34
  have HGe : Hid (w1.heap.size ≤ g11) := by have := HB3.out.size; show _ ≤ _; omega
  clear hg11 r4 hw4 ra ba sa b34 HP3 HB3
  go_loopw [12] (fun iv wx => ∃ (i : Nat) (bf : Bf) (au : Option Addr) (nu ku : Nat), i ≤ 40 ∧ iv = .int .i64 (i : Int) ∧ Hid (PlB w1.heap.size gb pm am i bf wx) ∧ Hid (BlkAt g11 40 (bfD bf (.slice au nu ku)) wx) ∧ Hid (EnR wx (.slice au nu ku) bf.l) ∧ Hid (nu = bf.l.length) ∧ Hid (Below w1.heap.size w1 wx)) (fun iv _ => 40 - (intOf iv).toNat)
  case atStart => exact ⟨0, B0, none, 0, 0, by omega, rfl, HP4, HG4, EnR.nilP _ HB0.out.2.2.2, (by rw [HB0.out.2.2.2]; rfl : (0 : Nat) = B0.l.length), HB4.out⟩
  case round =>
    obtain ⟨i, bf, au, nu, ku, hi, rfl, HP, HG, HE, HNu, HBx⟩ := hrel
    clear HP4 HB4 HG4
    by_cases hin : i < N ∧ i < 40
    · obtain ⟨h1, h2⟩ := hin
      have d1 : decide ((i : Int) < (N : Int)) = true := decide_eq_true (by omega)
      have d2 : decide ((i : Int) < 40) = true := decide_eq_true (by omega)
      have hiI : (i : Int) < (N : Int) := by omega
      have hik : i < ks.length := by rw [← HN.out]; exact h1
      obtain ⟨b, off, rfl, hrg⟩ := (HR.out.kept (HB1.out.trans (HBx.out.mono HB1.out.size))).at hik
      obtain ⟨q, hq⟩ : ∃ q, q = ks[i] := ⟨_, rfl⟩
      have hnow : q.now < 18446744073709551616 := HKs.out q (by rw [hq]; exact List.getElem_mem hik)
      rw [← hq] at hrg
      have HNow : Hid (q.now < 18446744073709551616) := hnow
      have HRg : Hid (wr.rangeAt b (off + i * 8) (acL q)) := hrg
      clear hq hnow hrg hik
      obtain ⟨X, hX, hand⟩ := and_small q.peer 3 (by decide)
      have hand2 : bits .and .i64 q.peer 3 = (X : Int) := hand
      have hX4 : (X : Int) < 4 := by omega
      have HX : Hid (X ≤ 3) := hX
      obtain ⟨Y, hY, hanY⟩ := and_small q.kind 7 (by decide)
      have hand3 : bits .and .i64 q.kind 7 = (Y : Int) := hanY
      clear hand hX hanY hY
      by_cases hbig : 2000 < q.size
      · have d5 : decide ((2000 : Int) < q.size) = true := decide_eq_true hbig
        go_wp2_with (first
          | refine wpList_load_mid rfl 43 _ rfl b (off + i * 8) rfl (acL q) _ HRg.out Try.underlying43 rfl (acInfo q) ?_
          | (refine wpList_alloc_blk rfl 43 rfl acZ (alloc_acF _) ?_; intro wa ra ba sa)
          | (refine wpList_store_part rfl 43 _ _ rfl rfl (acL q) rfl [] acZ [] (acL q) ra rfl rfl rfl rfl (acInfo q) (acL_one q) ?_; intro w4 r4 hw4; have c1 : w4.cell? ⟨_, 1, none⟩ = some (.int .i64 q.peer) := BlkAt.cell r4 1; clear ra)
          | (refine wpList_names rfl rfl ?_; intro w5 r5 b5; have hr5 := BlkAt.kept r4 b5; replace c1 := cellF c1 b5; have c5 : w5.cell? ⟨_, 5, none⟩ = some (.int .i64 q.size) := BlkAt.cell hr5 5; have c0 : w5.cell? ⟨_, 0, none⟩ = some (.int .i64 q.kind) := BlkAt.cell hr5 0; have c7 : w5.cell? ⟨_, 7, none⟩ = some (.int .u64 (q.now : Int)) := BlkAt.cell hr5 7; have cN : w5.cell? ⟨_, X, none⟩ = some (.string ⟨(nmF X).toArray⟩) := (BlkAt.cell r5 X).trans (nmC_at HX.out)))
        have HBf : Hid (Below w.heap.size w w5) := HB1.out.trans ((stepB (stepB HBx.out (hw4.below _ _ (Nat.le_refl _) ba)) b5).mono HB1.out.size)
        clear r4 hw4 ba sa c1 c5 c0 c7 cN r5 b5 hr5
        go_ret
        exact ⟨rfl, HBf.out⟩
      have d5 : decide ((2000 : Int) < q.size) = false := decide_eq_false hbig
      have HBig : Hid (q.size ≤ 2000) := by show _ ≤ _; omega
      clear hbig
      by_cases hY0 : Y = 0
      · subst hY0
        go_wp2_with (first
          | refine wpList_load_mid rfl 43 _ rfl b (off + i * 8) rfl (acL q) _ HRg.out Try.underlying43 rfl (acInfo q) ?_
          | (refine wpList_alloc_blk rfl 43 rfl acZ (alloc_acF _) ?_; intro wa ra ba sa)
          | (refine wpList_store_part rfl 43 _ _ rfl rfl (acL q) rfl [] acZ [] (acL q) ra rfl rfl rfl rfl (acInfo q) (acL_one q) ?_; intro w4 r4 hw4; have c1 : w4.cell? ⟨_, 1, none⟩ = some (.int .i64 q.peer) := BlkAt.cell r4 1; clear ra)
          | (refine wpList_names rfl rfl ?_; intro w5 r5 b5; have hr5 := BlkAt.kept r4 b5; replace c1 := cellF c1 b5; have c5 : w5.cell? ⟨_, 5, none⟩ = some (.int .i64 q.size) := BlkAt.cell hr5 5; have c0 : w5.cell? ⟨_, 0, none⟩ = some (.int .i64 q.kind) := BlkAt.cell hr5 0; have c7 : w5.cell? ⟨_, 7, none⟩ = some (.int .u64 (q.now : Int)) := BlkAt.cell hr5 7; have cN : w5.cell? ⟨_, X, none⟩ = some (.string ⟨(nmF X).toArray⟩) := (BlkAt.cell r5 X).trans (nmC_at HX.out)))
        obtain ⟨g13, hg13⟩ : ∃ g, g = wr.heap.size := ⟨_, rfl⟩
        rw [← hg13] at r4 hw4 c7 c1 c5 c0 hr5 ⊢
        have h45 : Below wr.heap.size wr w5 := stepB (hw4.below _ _ (by omega) ba) b5
        have HS5 : Hid (AcB g13 q w5) := hr5
        have HP5 : Hid (PlB w1.heap.size gb pm am i bf w5) := HP.out.kept h45
        have HB5 : Hid (Below w1.heap.size w1 w5) := stepB HBx.out h45
        have HG5 : Hid (BlkAt g11 40 (bfD bf (.slice au nu ku)) w5) := BlkAt.kept HG.out h45
        have HE5 : Hid (EnR w5 (.slice au nu ku) bf.l) := HE.out.kept h45
        have HI40 : Hid (i < 40) := h2
        clear hg13 r4 hw4 ba sa r5 b5 h45 hr5 HP HBx HG HE cN c1
        obtain ⟨bf2, hbf2⟩ : ∃ b2 : Bf, b2 = ⟨bf.pm, bf.am, bf.age, exL bf.age q.now bf.l⟩ := ⟨_, rfl⟩
        have HB2 : Hid (EnS bf2.l ∧ bf2.l.length ≤ bf.l.length) := by show _ ∧ _; rw [hbf2]; exact ⟨HP5.out.en.ex _ _, exL_len _ _ _⟩
        have HB2l : Hid (LimB bf = LimB bf2) := by show _ = _; rw [hbf2]; rfl
        have HB2p : Hid (bf2.pm = bf.pm ∧ bf2.am = bf.am) := by show _ ∧ _; rw [hbf2]; exact ⟨rfl, rfl⟩
        have hS5 := HS5.out
        have HPc : Hid (Calls Try.prog 13 #[pV gb, .int .u64 (q.now : Int)] w5 fun e w' => e = .returned (.tuple #[]) ∧ BuP (fun k => w1.heap.size ≤ k) w' gb bf2 ∧ Cp (fun k => k = gb) w5 w') := by
          show Calls _ _ _ _ _
          rw [hbf2]
          refine (expire_any bf q.now HNow.out gb (fun k => w1.heap.size ≤ k) w5 (fun k hk => Nat.le_trans HB5.out.size hk) HP5.out.bu HP5.out.en (by have := HP5.out.len; have := HI40.out; omega)).mono ?_
          rintro e w' ⟨he, ⟨ve, xs, h, -⟩, c⟩
          exact ⟨he, ⟨ve, xs, h⟩, c⟩
        have HRc : Hid (∀ W, EnR W (.slice au nu ku) bf.l → Calls Try.prog 14 #[.agg (bfD bf (.slice au nu ku)).toArray, .int .u64 (q.now : Int)] W fun r w' => ∃ v', r = .returned (.agg (bfD bf2 v').toArray) ∧ EnR w' v' bf2.l ∧ Below W.heap.size W w') := by
          show ∀ W, _
          intro W hE
          rw [hbf2]
          exact expire19_any bf q.now HNow.out HP5.out.en (by have := HP5.out.len; have := HI40.out; omega) _ _ rfl W hE
        clear hS5 hbf2
        go_wp2_with fail
        refine Calls.mono HPc.out ?_
        rintro e w6 ⟨rfl, hbu6, k6⟩
        have HP6 : Hid (PlB w1.heap.size gb pm am (i + 1) bf2 w6) := ⟨hbu6, HB2.out.1, by have := HB2.out.2; have := HP5.out.len; omega, HB2l.out ▸ HP5.out.lim, HB2p.out.1.trans HP5.out.pm, HB2p.out.2.trans HP5.out.am⟩
        have HG6 : Hid (BlkAt g11 40 (bfD bf (.slice au nu ku)) w6) := k6.oth _ _ _ HG5.out (by decide) (by decide) (by decide)
        have HE6 : Hid (EnR w6 (.slice au nu ku) bf.l) := HE5.out.kp k6.kp
        have HB6 : Hid (Below w1.heap.size w1 w6) := Chg.below HB5.out k6.chg HB5.out.size fun k _ hk => by
          obtain ⟨_, _, h⟩ := HP5.out.bu
          rw [hk]
          exact h.kb
        have c76 : w6.cell? ⟨g13, 7, none⟩ = some (.int .u64 (q.now : Int)) := (HS5.out.cp k6).cell 7
        clear hbu6 k6
        go_wp2_with (first | refine wpList_load_part rfl 40 _ rfl rfl [] (bfD bf (.slice au nu ku)) [] HG6.out (by simp) rfl Try.underlying40 rfl (infoBf _ _) ?_)
        refine (HRc.out _ HE6.out).mono ?_
        rintro e w7 ⟨v7, rfl, hE7, b7⟩
        obtain ⟨az, kz, rfl, -, -⟩ := hE7.len
        obtain ⟨nz, hnz⟩ : ∃ n, n = bf2.l.length := ⟨_, rfl⟩
        rw [← hnz] at hE7 ⊢
        have HNz : Hid (nz = bf2.l.length) := hnz
        have HE7 : Hid (EnR w7 (.slice az nz kz) bf2.l) := hE7
        have HG7 : Hid (BlkAt g11 40 (bfD bf (.slice au nu ku)) w7) := BlkAt.kept HG6.out b7
        have HP7 : Hid (PlB w1.heap.size gb pm am (i + 1) bf2 w7) := HP6.out.kept b7
        have HB7 : Hid (Below w1.heap.size w1 w7) := stepB HB6.out b7
        clear hE7 hnz b7 c76 HE6 HG6 HP6 HB6 HPc HRc
        go_wp2_with (refine wpList_store_part rfl 40 _ _ rfl rfl (bfD bf2 (.slice az nz kz)) rfl [] (bfD bf (.slice au nu ku)) [] (bfD bf2 (.slice az nz kz)) HG7.out (by simp) (by simp) rfl rfl (infoBf bf (.slice au nu ku)) (bfD_one _ _ _ _) ?_)
        intro wz rz hwz
        have hcz := Chg.of_wrote hwz
        have HPz : Hid (PlB w1.heap.size gb pm am (i + 1) bf2 wz) := ⟨HP7.out.bu.pastT HG7.out (by decide) (by decide) (by decide) (by decide) (by decide) hcz, HP7.out.en, HP7.out.len, HP7.out.lim, HP7.out.pm, HP7.out.am⟩
        have HGz : Hid (BlkAt g11 40 (bfD bf2 (.slice az nz kz)) wz) := rz
        have HEz : Hid (EnR wz (.slice az nz kz) bf2.l) := HE7.out.past HG7.out (bfD_no _ _ _ _) hcz
        have HBz : Hid (Below w1.heap.size w1 wz) := hwz.below _ _ HGe.out HB7.out
        clear hcz rz hwz HP7 HG7 HE7 HB7 HS5 HP5 HG5 HE5 HB5 HB2 HB2l HB2p c7 c5 c0 hand2 hand3
        have HHe : Hid (∀ W, Below wz.heap.size wz W → Calls Try.prog 22 #[pV gb, .string ⟨(nmF X).toArray⟩] W fun e w' => e = .returned (.int .i64 (hdB bf2.l (nmF X) : Int)) ∧ Below W.heap.size W w') := fun W hW => bheld_any _ (nmF X) gb _ W (HPz.out.bu.kept hW) HPz.out.en (by have := HPz.out.len; have := HI40.out; omega)
        have HTo : Hid (∀ W, Below wz.heap.size wz W → Calls Try.prog 19 #[pV gb] W fun e w' => e = .returned (.int .i64 (ttB bf2.l : Int)) ∧ Below W.heap.size W w') := fun W hW => btotal_any _ gb _ W (HPz.out.bu.kept hW) HPz.out.en (by have := HPz.out.len; have := HI40.out; omega)
        have HTr : Hid (∀ W, Below wz.heap.size wz W → Calls Try.prog 20 #[.agg (bfD bf2 (.slice az nz kz)).toArray] W fun e w' => e = .returned (.int .i64 (ttB bf2.l : Int)) ∧ Below W.heap.size W w') := fun W hW => total19_any bf2 (by have := HPz.out.len; have := HI40.out; omega) HPz.out.en _ _ rfl W (HEz.out.kept hW)
        have HHr : Hid (∀ W, Below wz.heap.size wz W → Calls Try.prog 23 #[.agg (bfD bf2 (.slice az nz kz)).toArray, .string ⟨(nmF X).toArray⟩] W fun e w' => e = .returned (.int .i64 (hdB bf2.l (nmF X) : Int)) ∧ Below W.heap.size W w') := fun W hW => held19_any bf2 (nmF X) (by have := HPz.out.len; have := HI40.out; omega) HPz.out.en _ _ rfl W (HEz.out.kept hW)
        have HCo : Hid (∀ W, Below wz.heap.size wz W → Calls Try.prog 21 #[pV gb] W fun e w' => e = .returned (.int .i64 (nz : Int)) ∧ w' = W) := by
          show ∀ W, _
          intro W hW
          rw [HNz.out]
          exact bcount_any _ gb _ W (HPz.out.bu.kept hW)
        have HCe : Hid (∀ W, Below wz.heap.size wz W → W.cell? ⟨g11, 3, none⟩ = some (.slice az nz kz)) := by
          show ∀ W, _
          intro W hW
          exact BlkAt.cell (BlkAt.kept HGz.out hW) 3
        generalize hdB bf2.l (nmF X) = hd at HHe HHr
        generalize ttB bf2.l = tt at HTo HTr
        have i40 : i < 40 := HI40.out
        go_wp2_with fail
        refine wpG_begin (by kernel_rfl) ?_
        refine gU_ 0 rfl ⟨_, by intro W hW; go_simp <;> with_reducible rfl, ?_⟩
        try simp only [Act.put, pA_, pB_, pC_]
        refine gU_ 2 rfl ⟨_, by intro W hW; refine Eq.trans (exec_load_part 40 _ (by rfl) (by rfl) [] (bfD bf2 (.slice az nz kz)) [] HGz.out (stepB (Below.refl _ _).drew hW) (by simp) rfl Try.underlying40 rfl (infoBf _ _)) ?_; with_reducible rfl, ?_⟩
        try simp only [Act.put, pA_, pB_, pC_]
        refine gD_ 1 fun K hK => ?_
        go_simp
        refine (HTo.out _ (Below.refl _ _).drew).mono ?_
        rintro e x1 ⟨rfl, y1⟩
        refine hK.out _ _ y1 ?_
        clear hK K
        try simp only [Act.put, pA_, pB_, pC_]
        refine gD_ 3 fun K hK => ?_
        go_simp
        refine (HTr.out _ (stepB (Below.refl _ _).drew y1)).mono ?_
        rintro e x2 ⟨rfl, y2⟩
        refine hK.out _ _ y2 ?_
        clear hK K
        try simp only [Act.put, pA_, pB_, pC_]
        refine gU_ 4 rfl ⟨_, by intro W hW; go_simp <;> with_reducible rfl, ?_⟩
        try simp only [Act.put, pA_, pB_, pC_]
        refine gU_ 5 rfl ⟨_, by intro W hW; go_simp <;> with_reducible rfl, ?_⟩
        try simp only [Act.put, pA_, pB_, pC_]
        refine gU_ 6 rfl ⟨_, by intro W hW; go_simp <;> with_reducible rfl, ?_⟩
        try simp only [Act.put, pA_, pB_, pC_]
        refine gU_ 8 rfl ⟨_, by intro W hW; go_simp <;> with_reducible rfl, ?_⟩
        try simp only [Act.put, pA_, pB_, pC_]
        refine gU_ 9 rfl ⟨_, by intro W hW; have hc := HCe.out W (stepB (stepB (stepB (Below.refl _ _).drew y1) y2) hW); go_simp <;> with_reducible rfl, ?_⟩
        try simp only [Act.put, pA_, pB_, pC_]
        refine gU_ 10 rfl ⟨_, by intro W hW; go_simp <;> with_reducible rfl, ?_⟩
        try simp only [Act.put, pA_, pB_, pC_]
        refine gD_ 7 fun K hK => ?_
        go_simp
        refine (HCo.out _ (stepB (stepB (Below.refl _ _).drew y1) y2)).mono ?_
        rintro e x3 ⟨rfl, rfl⟩
        refine hK.out _ _ (Below.refl _ _) ?_
        clear hK K
        try simp only [Act.put, pA_, pB_, pC_]
        refine gU_ 11 rfl ⟨_, by intro W hW; go_simp <;> with_reducible rfl, ?_⟩
        try simp only [Act.put, pA_, pB_, pC_]
        refine gU_ 12 rfl ⟨_, by intro W hW; go_simp <;> with_reducible rfl, ?_⟩
        try simp only [Act.put, pA_, pB_, pC_]
        refine gU_ 13 rfl ⟨_, by intro W hW; go_simp <;> with_reducible rfl, ?_⟩
        try simp only [Act.put, pA_, pB_, pC_]
        refine gU_ 14 rfl ⟨_, by intro W hW; go_simp <;> with_reducible rfl, ?_⟩
        try simp only [Act.put, pA_, pB_, pC_]
        refine gU_ 15 rfl ⟨_, by intro W hW; go_simp <;> with_reducible rfl, ?_⟩
        try simp only [Act.put, pA_, pB_, pC_]
        refine gU_ 17 rfl ⟨_, by intro W hW; refine Eq.trans (exec_load_part 40 _ (by rfl) (by rfl) [] (bfD bf2 (.slice az nz kz)) [] HGz.out (stepB (stepB (stepB (Below.refl _ _).drew y1) y2) hW) (by simp) rfl Try.underlying40 rfl (infoBf _ _)) ?_; with_reducible rfl, ?_⟩
        try simp only [Act.put, pA_, pB_, pC_]
        refine gU_ 18 rfl ⟨_, by intro W hW; go_simp <;> with_reducible rfl, ?_⟩
        try simp only [Act.put, pA_, pB_, pC_]
        refine gD_ 16 fun K hK => ?_
        go_simp
        refine (HHe.out _ (stepB (stepB (Below.refl _ _).drew y1) y2)).mono ?_
        rintro e x4 ⟨rfl, y4⟩
        refine hK.out _ _ y4 ?_
        clear hK K
        try simp only [Act.put, pA_, pB_, pC_]
        refine gD_ 19 fun K hK => ?_
        go_simp
        refine (HHr.out _ (stepB (stepB (stepB (Below.refl _ _).drew y1) y2) y4)).mono ?_
        rintro e x5 ⟨rfl, y5⟩
        refine hK.out _ _ y5 ?_
        clear hK K
        try simp only [Act.put, pA_, pB_, pC_]
        refine gU_ 20 rfl ⟨_, by intro W hW; go_simp <;> with_reducible rfl, ?_⟩
        try simp only [Act.put, pA_, pB_, pC_]
        refine gU_ 21 rfl ⟨_, by intro W hW; go_simp <;> with_reducible rfl, ?_⟩
        try simp only [Act.put, pA_, pB_, pC_]
        refine wpG_done (by kernel_rfl) ?_
        have hz5 : Below wz.heap.size wz x5 := stepB (stepB (stepB (stepB (Below.refl _ _).drew y1) y2) y4) y5
        have HP9 : Hid (PlB w1.heap.size gb pm am (i + 1) bf2 x5) := HPz.out.kept hz5
        have HG9 : Hid (BlkAt g11 40 (bfD bf2 (.slice az nz kz)) x5) := BlkAt.kept HGz.out hz5
        have HE9 : Hid (EnR x5 (.slice az nz kz) bf2.l) := HEz.out.kept hz5
        have HB9 : Hid (Below w1.heap.size w1 x5) := stepB HBz.out hz5
        clear hz5 y1 y2 y4 y5 HHe HTo HTr HHr HCo HCe HPz HGz HEz HBz
        go_wp2
        go_roundw
        case rel => exact ⟨i + 1, bf2, az, nz, kz, by omega, by go_num, HP9, HG9, HE9, HNz, HB9⟩
        case measure => simp [intOf] <;> omega
      by_cases hY1 : Y = 1
      · subst hY1
        clear hY0
        go_wp2_with (first
          | refine wpList_load_mid rfl 43 _ rfl b (off + i * 8) rfl (acL q) _ HRg.out Try.underlying43 rfl (acInfo q) ?_
          | (refine wpList_alloc_blk rfl 43 rfl acZ (alloc_acF _) ?_; intro wa ra ba sa)
          | (refine wpList_store_part rfl 43 _ _ rfl rfl (acL q) rfl [] acZ [] (acL q) ra rfl rfl rfl rfl (acInfo q) (acL_one q) ?_; intro w4 r4 hw4; have c1 : w4.cell? ⟨_, 1, none⟩ = some (.int .i64 q.peer) := BlkAt.cell r4 1; clear ra)
          | (refine wpList_names rfl rfl ?_; intro w5 r5 b5; have hr5 := BlkAt.kept r4 b5; replace c1 := cellF c1 b5; have c5 : w5.cell? ⟨_, 5, none⟩ = some (.int .i64 q.size) := BlkAt.cell hr5 5; have c0 : w5.cell? ⟨_, 0, none⟩ = some (.int .i64 q.kind) := BlkAt.cell hr5 0; have c7 : w5.cell? ⟨_, 7, none⟩ = some (.int .u64 (q.now : Int)) := BlkAt.cell hr5 7; have cN : w5.cell? ⟨_, X, none⟩ = some (.string ⟨(nmF X).toArray⟩) := (BlkAt.cell r5 X).trans (nmC_at HX.out)))
        obtain ⟨g13, hg13⟩ : ∃ g, g = wr.heap.size := ⟨_, rfl⟩
        rw [← hg13] at r4 hw4 c7 c1 c5 c0 hr5 ⊢
        have h45 : Below wr.heap.size wr w5 := stepB (hw4.below _ _ (by omega) ba) b5
        have HS5 : Hid (AcB g13 q w5) := hr5
        have HP5 : Hid (PlB w1.heap.size gb pm am i bf w5) := HP.out.kept h45
        have HB5 : Hid (Below w1.heap.size w1 w5) := stepB HBx.out h45
        have HG5 : Hid (BlkAt g11 40 (bfD bf (.slice au nu ku)) w5) := BlkAt.kept HG.out h45
        have HE5 : Hid (EnR w5 (.slice au nu ku) bf.l) := HE.out.kept h45
        have HI40 : Hid (i < 40) := h2
        clear hg13 r4 hw4 ba sa r5 b5 h45 hr5 HP HBx HG HE cN c1
        obtain ⟨bf2, hbf2⟩ : ∃ b2 : Bf, b2 = ⟨bf.pm, bf.am, bf.age, drL (nmF X) bf.l⟩ := ⟨_, rfl⟩
        have hdl : (drL (nmF X) bf.l).Sublist bf.l := List.filter_sublist
        have HB2 : Hid (EnS bf2.l ∧ bf2.l.length ≤ bf.l.length) := by show _ ∧ _; rw [hbf2]; exact ⟨HP5.out.en.subl hdl, hdl.length_le⟩
        have HB2l : Hid (LimB bf = LimB bf2) := by show _ = _; rw [hbf2]; rfl
        have HB2p : Hid (bf2.pm = bf.pm ∧ bf2.am = bf.am) := by show _ ∧ _; rw [hbf2]; exact ⟨rfl, rfl⟩
        clear hdl
        have hS5 := HS5.out
        have HPc : Hid (Calls Try.prog 15 #[pV gb, .string ⟨(nmF X).toArray⟩] w5 fun e w' => e = .returned (.tuple #[]) ∧ BuP (fun k => w1.heap.size ≤ k) w' gb bf2 ∧ Cp (fun k => k = gb) w5 w') := by
          show Calls _ _ _ _ _
          rw [hbf2]
          exact drop_any bf (nmF X) gb (fun k => w1.heap.size ≤ k) w5 (fun k hk => Nat.le_trans HB5.out.size hk) HP5.out.bu (by have := HP5.out.len; have := HI40.out; omega)
        have HRc : Hid (∀ W, EnR W (.slice au nu ku) bf.l → Calls Try.prog 16 #[.agg (bfD bf (.slice au nu ku)).toArray, .string ⟨(nmF X).toArray⟩] W fun r w' => ∃ v', r = .returned (.agg (bfD bf2 v').toArray) ∧ EnR w' v' bf2.l ∧ Below W.heap.size W w') := by
          show ∀ W, _
          intro W hE
          rw [hbf2]
          exact drop19_any bf (nmF X) (by have := HP5.out.len; have := HI40.out; omega) _ _ rfl W hE
        clear hS5 hbf2
        go_wp2_with fail
        refine Calls.mono HPc.out ?_
        rintro e w6 ⟨rfl, hbu6, k6⟩
        have HP6 : Hid (PlB w1.heap.size gb pm am (i + 1) bf2 w6) := ⟨hbu6, HB2.out.1, by have := HB2.out.2; have := HP5.out.len; omega, HB2l.out ▸ HP5.out.lim, HB2p.out.1.trans HP5.out.pm, HB2p.out.2.trans HP5.out.am⟩
        have HG6 : Hid (BlkAt g11 40 (bfD bf (.slice au nu ku)) w6) := k6.oth _ _ _ HG5.out (by decide) (by decide) (by decide)
        have HE6 : Hid (EnR w6 (.slice au nu ku) bf.l) := HE5.out.kp k6.kp
        have HB6 : Hid (Below w1.heap.size w1 w6) := Chg.below HB5.out k6.chg HB5.out.size fun k _ hk => by
          obtain ⟨_, _, h⟩ := HP5.out.bu
          rw [hk]
          exact h.kb
        have c76 : w6.cell? ⟨g13, 7, none⟩ = some (.int .u64 (q.now : Int)) := (HS5.out.cp k6).cell 7
        clear hbu6 k6
        go_wp2_with (first | refine wpList_load_part rfl 40 _ rfl rfl [] (bfD bf (.slice au nu ku)) [] HG6.out (by simp) rfl Try.underlying40 rfl (infoBf _ _) ?_)
        refine (HRc.out _ HE6.out).mono ?_
        rintro e w7 ⟨v7, rfl, hE7, b7⟩
        obtain ⟨az, kz, rfl, -, -⟩ := hE7.len
        obtain ⟨nz, hnz⟩ : ∃ n, n = bf2.l.length := ⟨_, rfl⟩
        rw [← hnz] at hE7 ⊢
        have HNz : Hid (nz = bf2.l.length) := hnz
        have HE7 : Hid (EnR w7 (.slice az nz kz) bf2.l) := hE7
        have HG7 : Hid (BlkAt g11 40 (bfD bf (.slice au nu ku)) w7) := BlkAt.kept HG6.out b7
        have HP7 : Hid (PlB w1.heap.size gb pm am (i + 1) bf2 w7) := HP6.out.kept b7
        have HB7 : Hid (Below w1.heap.size w1 w7) := stepB HB6.out b7
        clear hE7 hnz b7 c76 HE6 HG6 HP6 HB6 HPc HRc
        go_wp2_with (refine wpList_store_part rfl 40 _ _ rfl rfl (bfD bf2 (.slice az nz kz)) rfl [] (bfD bf (.slice au nu ku)) [] (bfD bf2 (.slice az nz kz)) HG7.out (by simp) (by simp) rfl rfl (infoBf bf (.slice au nu ku)) (bfD_one _ _ _ _) ?_)
        intro wz rz hwz
        have hcz := Chg.of_wrote hwz
        have HPz : Hid (PlB w1.heap.size gb pm am (i + 1) bf2 wz) := ⟨HP7.out.bu.pastT HG7.out (by decide) (by decide) (by decide) (by decide) (by decide) hcz, HP7.out.en, HP7.out.len, HP7.out.lim, HP7.out.pm, HP7.out.am⟩
        have HGz : Hid (BlkAt g11 40 (bfD bf2 (.slice az nz kz)) wz) := rz
        have HEz : Hid (EnR wz (.slice az nz kz) bf2.l) := HE7.out.past HG7.out (bfD_no _ _ _ _) hcz
        have HBz : Hid (Below w1.heap.size w1 wz) := hwz.below _ _ HGe.out HB7.out
        clear hcz rz hwz HP7 HG7 HE7 HB7 HS5 HP5 HG5 HE5 HB5 HB2 HB2l HB2p c7 c5 c0 hand2 hand3
        have HHe : Hid (∀ W, Below wz.heap.size wz W → Calls Try.prog 22 #[pV gb, .string ⟨(nmF X).toArray⟩] W fun e w' => e = .returned (.int .i64 (hdB bf2.l (nmF X) : Int)) ∧ Below W.heap.size W w') := fun W hW => bheld_any _ (nmF X) gb _ W (HPz.out.bu.kept hW) HPz.out.en (by have := HPz.out.len; have := HI40.out; omega)
        have HTo : Hid (∀ W, Below wz.heap.size wz W → Calls Try.prog 19 #[pV gb] W fun e w' => e = .returned (.int .i64 (ttB bf2.l : Int)) ∧ Below W.heap.size W w') := fun W hW => btotal_any _ gb _ W (HPz.out.bu.kept hW) HPz.out.en (by have := HPz.out.len; have := HI40.out; omega)
        have HTr : Hid (∀ W, Below wz.heap.size wz W → Calls Try.prog 20 #[.agg (bfD bf2 (.slice az nz kz)).toArray] W fun e w' => e = .returned (.int .i64 (ttB bf2.l : Int)) ∧ Below W.heap.size W w') := fun W hW => total19_any bf2 (by have := HPz.out.len; have := HI40.out; omega) HPz.out.en _ _ rfl W (HEz.out.kept hW)
        have HHr : Hid (∀ W, Below wz.heap.size wz W → Calls Try.prog 23 #[.agg (bfD bf2 (.slice az nz kz)).toArray, .string ⟨(nmF X).toArray⟩] W fun e w' => e = .returned (.int .i64 (hdB bf2.l (nmF X) : Int)) ∧ Below W.heap.size W w') := fun W hW => held19_any bf2 (nmF X) (by have := HPz.out.len; have := HI40.out; omega) HPz.out.en _ _ rfl W (HEz.out.kept hW)
        have HCo : Hid (∀ W, Below wz.heap.size wz W → Calls Try.prog 21 #[pV gb] W fun e w' => e = .returned (.int .i64 (nz : Int)) ∧ w' = W) := by
          show ∀ W, _
          intro W hW
          rw [HNz.out]
          exact bcount_any _ gb _ W (HPz.out.bu.kept hW)
        have HCe : Hid (∀ W, Below wz.heap.size wz W → W.cell? ⟨g11, 3, none⟩ = some (.slice az nz kz)) := by
          show ∀ W, _
          intro W hW
          exact BlkAt.cell (BlkAt.kept HGz.out hW) 3
        generalize hdB bf2.l (nmF X) = hd at HHe HHr
        generalize ttB bf2.l = tt at HTo HTr
        have i40 : i < 40 := HI40.out
        go_wp2_with fail
        refine wpG_begin (by kernel_rfl) ?_
        refine gU_ 0 rfl ⟨_, by intro W hW; go_simp <;> with_reducible rfl, ?_⟩
        try simp only [Act.put, pA_, pB_, pC_]
        refine gU_ 2 rfl ⟨_, by intro W hW; refine Eq.trans (exec_load_part 40 _ (by rfl) (by rfl) [] (bfD bf2 (.slice az nz kz)) [] HGz.out (stepB (Below.refl _ _).drew hW) (by simp) rfl Try.underlying40 rfl (infoBf _ _)) ?_; with_reducible rfl, ?_⟩
        try simp only [Act.put, pA_, pB_, pC_]
        refine gD_ 1 fun K hK => ?_
        go_simp
        refine (HTo.out _ (Below.refl _ _).drew).mono ?_
        rintro e x1 ⟨rfl, y1⟩
        refine hK.out _ _ y1 ?_
        clear hK K
        try simp only [Act.put, pA_, pB_, pC_]
        refine gD_ 3 fun K hK => ?_
        go_simp
        refine (HTr.out _ (stepB (Below.refl _ _).drew y1)).mono ?_
        rintro e x2 ⟨rfl, y2⟩
        refine hK.out _ _ y2 ?_
        clear hK K
        try simp only [Act.put, pA_, pB_, pC_]
        refine gU_ 4 rfl ⟨_, by intro W hW; go_simp <;> with_reducible rfl, ?_⟩
        try simp only [Act.put, pA_, pB_, pC_]
        refine gU_ 5 rfl ⟨_, by intro W hW; go_simp <;> with_reducible rfl, ?_⟩
        try simp only [Act.put, pA_, pB_, pC_]
        refine gU_ 6 rfl ⟨_, by intro W hW; go_simp <;> with_reducible rfl, ?_⟩
        try simp only [Act.put, pA_, pB_, pC_]
        refine gU_ 8 rfl ⟨_, by intro W hW; go_simp <;> with_reducible rfl, ?_⟩
        try simp only [Act.put, pA_, pB_, pC_]
        refine gU_ 9 rfl ⟨_, by intro W hW; have hc := HCe.out W (stepB (stepB (stepB (Below.refl _ _).drew y1) y2) hW); go_simp <;> with_reducible rfl, ?_⟩
        try simp only [Act.put, pA_, pB_, pC_]
        refine gU_ 10 rfl ⟨_, by intro W hW; go_simp <;> with_reducible rfl, ?_⟩
        try simp only [Act.put, pA_, pB_, pC_]
        refine gD_ 7 fun K hK => ?_
        go_simp
        refine (HCo.out _ (stepB (stepB (Below.refl _ _).drew y1) y2)).mono ?_
        rintro e x3 ⟨rfl, rfl⟩
        refine hK.out _ _ (Below.refl _ _) ?_
        clear hK K
        try simp only [Act.put, pA_, pB_, pC_]
        refine gU_ 11 rfl ⟨_, by intro W hW; go_simp <;> with_reducible rfl, ?_⟩
        try simp only [Act.put, pA_, pB_, pC_]
        refine gU_ 12 rfl ⟨_, by intro W hW; go_simp <;> with_reducible rfl, ?_⟩
        try simp only [Act.put, pA_, pB_, pC_]
        refine gU_ 13 rfl ⟨_, by intro W hW; go_simp <;> with_reducible rfl, ?_⟩
        try simp only [Act.put, pA_, pB_, pC_]
        refine gU_ 14 rfl ⟨_, by intro W hW; go_simp <;> with_reducible rfl, ?_⟩
        try simp only [Act.put, pA_, pB_, pC_]
        refine gU_ 15 rfl ⟨_, by intro W hW; go_simp <;> with_reducible rfl, ?_⟩
        try simp only [Act.put, pA_, pB_, pC_]
        refine gU_ 17 rfl ⟨_, by intro W hW; refine Eq.trans (exec_load_part 40 _ (by rfl) (by rfl) [] (bfD bf2 (.slice az nz kz)) [] HGz.out (stepB (stepB (stepB (Below.refl _ _).drew y1) y2) hW) (by simp) rfl Try.underlying40 rfl (infoBf _ _)) ?_; with_reducible rfl, ?_⟩
        try simp only [Act.put, pA_, pB_, pC_]
        refine gU_ 18 rfl ⟨_, by intro W hW; go_simp <;> with_reducible rfl, ?_⟩
        try simp only [Act.put, pA_, pB_, pC_]
        refine gD_ 16 fun K hK => ?_
        go_simp
        refine (HHe.out _ (stepB (stepB (Below.refl _ _).drew y1) y2)).mono ?_
        rintro e x4 ⟨rfl, y4⟩
        refine hK.out _ _ y4 ?_
        clear hK K
        try simp only [Act.put, pA_, pB_, pC_]
        refine gD_ 19 fun K hK => ?_
        go_simp
        refine (HHr.out _ (stepB (stepB (stepB (Below.refl _ _).drew y1) y2) y4)).mono ?_
        rintro e x5 ⟨rfl, y5⟩
        refine hK.out _ _ y5 ?_
        clear hK K
        try simp only [Act.put, pA_, pB_, pC_]
        refine gU_ 20 rfl ⟨_, by intro W hW; go_simp <;> with_reducible rfl, ?_⟩
        try simp only [Act.put, pA_, pB_, pC_]
        refine gU_ 21 rfl ⟨_, by intro W hW; go_simp <;> with_reducible rfl, ?_⟩
        try simp only [Act.put, pA_, pB_, pC_]
        refine wpG_done (by kernel_rfl) ?_
        have hz5 : Below wz.heap.size wz x5 := stepB (stepB (stepB (stepB (Below.refl _ _).drew y1) y2) y4) y5
        have HP9 : Hid (PlB w1.heap.size gb pm am (i + 1) bf2 x5) := HPz.out.kept hz5
        have HG9 : Hid (BlkAt g11 40 (bfD bf2 (.slice az nz kz)) x5) := BlkAt.kept HGz.out hz5
        have HE9 : Hid (EnR x5 (.slice az nz kz) bf2.l) := HEz.out.kept hz5
        have HB9 : Hid (Below w1.heap.size w1 x5) := stepB HBz.out hz5
        clear hz5 y1 y2 y4 y5 HHe HTo HTr HHr HCo HCe HPz HGz HEz HBz
        go_wp2
        go_roundw
        case rel => exact ⟨i + 1, bf2, az, nz, kz, by omega, by go_num, HP9, HG9, HE9, HNz, HB9⟩
        case measure => simp [intOf] <;> omega
      · have y0 : ((Y : Int) == 0) = false := beq_eq_false_iff_ne.2 (by omega)
        have y1 : ((Y : Int) == 1) = false := beq_eq_false_iff_ne.2 (by omega)
        have y0p : ¬ (Y : Int) = 0 := by omega
        have y1p : ¬ (Y : Int) = 1 := by omega
        clear hY0 hY1
        go_wp2_with (first
          | refine wpList_load_mid rfl 43 _ rfl b (off + i * 8) rfl (acL q) _ HRg.out Try.underlying43 rfl (acInfo q) ?_
          | (refine wpList_alloc_blk rfl 43 rfl acZ (alloc_acF _) ?_; intro wa ra ba sa)
          | (refine wpList_store_part rfl 43 _ _ rfl rfl (acL q) rfl [] acZ [] (acL q) ra rfl rfl rfl rfl (acInfo q) (acL_one q) ?_; intro w4 r4 hw4; have c1 : w4.cell? ⟨_, 1, none⟩ = some (.int .i64 q.peer) := BlkAt.cell r4 1; clear ra)
          | (refine wpList_names rfl rfl ?_; intro w5 r5 b5; have hr5 := BlkAt.kept r4 b5; replace c1 := cellF c1 b5; have c5 : w5.cell? ⟨_, 5, none⟩ = some (.int .i64 q.size) := BlkAt.cell hr5 5; have c0 : w5.cell? ⟨_, 0, none⟩ = some (.int .i64 q.kind) := BlkAt.cell hr5 0; have c7 : w5.cell? ⟨_, 7, none⟩ = some (.int .u64 (q.now : Int)) := BlkAt.cell hr5 7; have cN : w5.cell? ⟨_, X, none⟩ = some (.string ⟨(nmF X).toArray⟩) := (BlkAt.cell r5 X).trans (nmC_at HX.out)))
        obtain ⟨g13, hg13⟩ : ∃ g, g = wr.heap.size := ⟨_, rfl⟩
        rw [← hg13] at r4 hw4 c7 c1 c5 c0 hr5 ⊢
        have h45 : Below wr.heap.size wr w5 := stepB (hw4.below _ _ (by omega) ba) b5
        have HS5 : Hid (AcB g13 q w5) := hr5
        have HP5 : Hid (PlB w1.heap.size gb pm am i bf w5) := HP.out.kept h45
        have HB5 : Hid (Below w1.heap.size w1 w5) := stepB HBx.out h45
        have HG5 : Hid (BlkAt g11 40 (bfD bf (.slice au nu ku)) w5) := BlkAt.kept HG.out h45
        have HE5 : Hid (EnR w5 (.slice au nu ku) bf.l) := HE.out.kept h45
        have HI40 : Hid (i < 40) := h2
        clear hg13 r4 hw4 ba sa r5 b5 h45 hr5 HP HBx HG HE cN c1
        clear y0 y1 y0p y1p
        obtain ⟨S, hS⟩ : ∃ S : Nat, S = q.size.toNat := ⟨_, rfl⟩
        have HS : Hid (S = q.size.toNat) := hS
        have HSb : Hid (S ≤ 2000) := by have := HBig.out; show _ ≤ _; omega
        clear c7 c5 c0 hand2 hand3 hS
        go_loopw [15, 16] (fun bv kv wx => ∃ k : Nat, k ≤ S ∧ kv = .int .i64 (k : Int) ∧ Hid (OwnG w5 [Rw.by 5 bv (List.replicate k q.fill)] wx)) (fun _ kv _ => S - (intOf kv).toNat)
        case atStart => exact ⟨0, by omega, rfl, (OwnG.start w5).nilB _⟩
        case round =>
          obtain ⟨k, hk, rfl, HO⟩ := hrel
          have hb5 := HO.out.below
          have c5 : wr.cell? ⟨g13, 5, none⟩ = some (.int .i64 q.size) := (HS5.out.kept hb5).cell 5
          by_cases hlt : k < S
          · have hkI : (k : Int) < q.size := by have := HS.out; omega
            have hd : decide ((k : Int) < q.size) = true := decide_eq_true hkI
            have c6 : wr.cell? ⟨g13, 6, none⟩ = some (.int .u8 (q.fill.toNat : Int)) := (HS5.out.kept hb5).cell 6
            have hk2 : k ≤ 2000 := by have := HSb.out; omega
            have HRep : Hid (List.replicate k q.fill ++ [q.fill] = List.replicate (k + 1) q.fill) := List.replicate_succ'.symm
            have HLen : Hid ((List.replicate k q.fill).length + [q.fill].length ≤ 140737488355328) := by show _ ≤ _; simp; omega
            clear hb5
            go_wp2_with (at_builtin; go_must (refine wpList_append_G rfl _ _ 22 rfl Try.underlying22 info5 _ (List.replicate k q.fill) rfl (HO.out.kept (growB _)) _ [q.fill] rfl (rd_byte q.fill rfl) HLen.out ?_))
            intro v6 w6 hO6 _
            rw [HRep.out] at hO6
            have HO6 : Hid (OwnG w5 [Rw.by 5 v6 (List.replicate (k + 1) q.fill)] w6) := hO6
            clear hO6
            go_wp2
            go_roundw
            case rel => exact ⟨k + 1, by omega, by go_num, HO6⟩
            case measure => simp [intOf] <;> omega
          · have hkI : q.size ≤ (k : Int) := by have := HS.out; omega
            have hd : decide ((k : Int) < q.size) = false := decide_eq_false (by omega)
            have hks : k = S := by omega
            subst hks
            obtain ⟨BD, hBD⟩ : ∃ BD, BD = List.replicate k q.fill := ⟨_, rfl⟩
            rw [← hBD] at HO
            have HBDl : Hid (BD.length = k) := by show _ = _; rw [hBD, List.length_replicate]
            obtain ⟨ab, cb, eb, -⟩ := id HO.out.rd0
            rw [HBDl.out] at eb
            subst eb
            have hrw := HO.out.rows _ (List.mem_cons_self ..)
            have hrw' : wr.ownsRow w5.heap.size 5 1 (.slice ab k cb) BD.length (BD.map bv) := hrw
            have HRow : Hid (wr.ownsRow w5.heap.size 5 1 (.slice ab k cb) BD.length (BD.map bv)) := hrw'
            have HB5w : Hid (Below w5.heap.size w5 wr) := hb5
            have HRdB : Hid (Rd wr (.slice ab k cb) BD) := HO.out.rd0
            have HSw : Hid (AcB g13 q wr) := HS5.out.kept hb5
            have HGw : Hid (BlkAt g11 40 (bfD bf (.slice au nu ku)) wr) := BlkAt.kept HG5.out hb5
            have HEw : Hid (EnR wr (.slice au nu ku) bf.l) := HE5.out.kept hb5
            have HBw : Hid (Below w1.heap.size w1 wr) := HB5.out.trans (hb5.mono HB5.out.size)
            obtain ⟨R, hR⟩ : ∃ R, R = adF bf (nmF X) q.msg q.part q.parts BD q.now := ⟨_, rfl⟩
            have hadd := HP5.out.add HB5.out.size hb5 (by have := HI40.out; omega) (fun g => (Value.slice ab k cb).ownBlock = some g) (fun g hg => HRow.out.lt g hg) (nmF X) (Nat.le_trans (nmF_len X) (by decide)) q.msg q.part q.parts BD (.slice ab k cb) q.now HNow.out HRdB.out (OutK.own HRow.out fun g hg hk => hk.2 hg)
            rw [← hR] at hadd
            have HAdd : Hid (Calls Try.prog 17 #[pV gb, .string ⟨(nmF X).toArray⟩, .int .i64 q.msg, .int .i64 q.part, .int .i64 q.parts, .slice ab k cb, .int .u64 (q.now : Int)] wr fun e w' => ∃ v, e = .returned (.tuple #[v, .int .i64 R.2.2]) ∧ Rd w' v R.2.1 ∧ PlB w1.heap.size gb pm am (i + 1) R.1 w' ∧ Cp (fun g => w1.heap.size ≤ g ∧ ¬ (Value.slice ab k cb).ownBlock = some g) wr w' ∧ BuP (fun g => w1.heap.size ≤ g ∧ ¬ (Value.slice ab k cb).ownBlock = some g) w' gb R.1) := hadd
            have HRef : Hid (∀ W, EnR W (.slice au nu ku) bf.l → Rd W (.slice ab k cb) BD → Calls Try.prog 18 #[.agg (bfD bf (.slice au nu ku)).toArray, .string ⟨(nmF X).toArray⟩, .int .i64 q.msg, .int .i64 q.part, .int .i64 q.parts, .slice ab k cb, .int .u64 (q.now : Int)] W fun r w' => ∃ v', r = .returned (.tuple #[.agg (bfD R.1 v').toArray, .string ⟨R.2.1.toArray⟩, .int .i64 R.2.2]) ∧ EnR w' v' R.1.l ∧ Below W.heap.size W w') := by
              show ∀ W, _
              intro W hE hr
              rw [hR]
              exact add19_any bf (by have := HP5.out.len; have := HI40.out; omega) HP5.out.en (nmF X) (Nat.le_trans (nmF_len X) (by decide)) q.msg q.part q.parts BD q.now HNow.out _ _ _ rfl W hE hr
            have c2 : wr.cell? ⟨g13, 2, none⟩ = some (.int .i64 q.msg) := HSw.out.cell 2
            have c3 : wr.cell? ⟨g13, 3, none⟩ = some (.int .i64 q.part) := HSw.out.cell 3
            have c4 : wr.cell? ⟨g13, 4, none⟩ = some (.int .i64 q.parts) := HSw.out.cell 4
            have c7 : wr.cell? ⟨g13, 7, none⟩ = some (.int .u64 (q.now : Int)) := HSw.out.cell 7
            have HKS : Hid (k ≤ 2000) := HSb.out
            clear hBD hrw hrw' hb5 hR hadd HO HS5 HG5 HE5 HP5 HS HSb hk hlt
            go_wp2_with fail
            refine Calls.mono HAdd.out ?_
            rintro e w7 ⟨v7, rfl, hR7, hP7, k7, hbu7⟩
            obtain ⟨a7, d7, rfl, -⟩ := id hR7
            obtain ⟨n7, hn7⟩ : ∃ n, n = R.2.1.length := ⟨_, rfl⟩
            rw [← hn7] at hR7 ⊢
            have HR7 : Hid (Rd w7 (.slice a7 n7 d7) R.2.1) := hR7
            have HP7 : Hid (PlB w1.heap.size gb pm am (i + 1) R.1 w7) := hP7
            have HBu7 : Hid (BuP (fun g => w1.heap.size ≤ g ∧ ¬ (Value.slice ab k cb).ownBlock = some g) w7 gb R.1) := hbu7
            have HRow7 : Hid (w7.ownsRow w5.heap.size 5 1 (.slice ab k cb) BD.length (BD.map bv)) := own_chgG HRow.out k7.chg fun g hg hk => hk.2 hg
            have HS7 : Hid (AcB g13 q w7) := HSw.out.cp k7
            have HG7 : Hid (BlkAt g11 40 (bfD bf (.slice au nu ku)) w7) := k7.oth _ _ _ HGw.out (by decide) (by decide) (by decide)
            have HE7 : Hid (EnR w7 (.slice au nu ku) bf.l) := HEw.out.kp k7.kp
            have HB7 : Hid (Below w1.heap.size w1 w7) := Chg.below HBw.out k7.chg HBw.out.size fun g _ hg => hg.1
            have e2 : w7.cell? ⟨g13, 2, none⟩ = some (.int .i64 q.msg) := HS7.out.cell 2
            have e3 : w7.cell? ⟨g13, 3, none⟩ = some (.int .i64 q.part) := HS7.out.cell 3
            have e4 : w7.cell? ⟨g13, 4, none⟩ = some (.int .i64 q.parts) := HS7.out.cell 4
            have e7 : w7.cell? ⟨g13, 7, none⟩ = some (.int .u64 (q.now : Int)) := HS7.out.cell 7
            clear hR7 hP7 hbu7 hn7 k7 c2 c3 c4 c7 c5 HAdd HRow HRdB HSw HGw HEw HBw
            go_wp2_with (first | refine wpList_load_part rfl 40 _ rfl rfl [] (bfD bf (.slice au nu ku)) [] HG7.out (by simp) rfl Try.underlying40 rfl (infoBf _ _) ?_)
            refine (HRef.out _ HE7.out (by have h := Rd.of_row HRow7.out; exact h)).mono ?_
            rintro e w8 ⟨v8, rfl, hE8, b8⟩
            obtain ⟨az, kz, rfl, -, -⟩ := hE8.len
            obtain ⟨nz, hnz⟩ : ∃ n, n = R.1.l.length := ⟨_, rfl⟩
            rw [← hnz] at hE8 ⊢
            have HNz : Hid (nz = R.1.l.length) := hnz
            have HE8 : Hid (EnR w8 (.slice az nz kz) R.1.l) := hE8
            have HG8 : Hid (BlkAt g11 40 (bfD bf (.slice au nu ku)) w8) := BlkAt.kept HG7.out b8
            have HB78 : Hid (Below w7.heap.size w7 w8) := b8
            clear hE8 hnz b8 e2 e3 e4 e7 HRef HE7 HG7
            go_wp2_with (first
              | (refine wpList_alloc_blk rfl 40 rfl zbD (alloc_bf _) ?_; intro wa ra ba sa)
              | (refine wpList_store_part rfl 40 _ _ rfl rfl (bfD R.1 (.slice az nz kz)) rfl [] zbD [] (bfD R.1 (.slice az nz kz)) ra rfl rfl rfl rfl (infoBf R.1 (.slice az nz kz)) (bfD_one _ _ _ _) ?_; intro wb rb hwb; have hgb2 := BlkAt.chg (BlkAt.kept HG8.out ba) (Chg.of_wrote hwb) (by have := BlkAt.lt HG8.out; omega))
              | refine wpList_load_part rfl 40 _ rfl rfl [] (bfD R.1 (.slice az nz kz)) [] rb (by simp) rfl Try.underlying40 rfl (infoBf _ _) ?_
              | (refine wpList_store_part rfl 40 _ _ rfl rfl (bfD R.1 (.slice az nz kz)) rfl [] (bfD bf (.slice au nu ku)) [] (bfD R.1 (.slice az nz kz)) hgb2 (by simp) (by simp) rfl rfl (infoBf bf (.slice au nu ku)) (bfD_one _ _ _ _) ?_; intro wz rz hwz; have hb8b : Below w8.heap.size w8 wb := hwb.below _ _ (Nat.le_refl _) ba; have hcz := Chg.of_wrote hwz; have hrm : Rd wz (.slice a7 n7 d7) R.2.1 := ((HR7.out.kept HB78.out).kept hb8b).pastF hgb2 (bfD_no8 _ _ _ _) hcz; have hcv := conv19 hrm))
            have h7b : Below w7.heap.size w7 wb := stepB HB78.out hb8b
            have hrowb := own_keptG HRow7.out h7b
            have HBuz : Hid (BuP (fun g => w1.heap.size ≤ g ∧ ¬ (Value.slice ab k cb).ownBlock = some g) wz gb R.1) := (HBu7.out.kept h7b).pastT hgb2 (by decide) (by decide) (by decide) (by decide) (by decide) hcz
            have HRowz : Hid (wz.ownsRow w5.heap.size 5 1 (.slice ab k cb) BD.length (BD.map bv)) := own_chgG hrowb hcz (own_neF hrowb hgb2 (by decide))
            have HEz0 : Hid (EnR wz (.slice az nz kz) R.1.l) := (HE8.out.kept hb8b).past hgb2 (bfD_no _ _ _ _) hcz
            have HGz0 : Hid (BlkAt g11 40 (bfD R.1 (.slice az nz kz)) wz) := rz
            have HBz0 : Hid (Below w1.heap.size w1 wz) := hwz.below _ _ HGe.out (HB7.out.trans (h7b.mono HB7.out.size))
            have HPf : Hid (EnS R.1.l ∧ R.1.l.length ≤ i + 1 ∧ LimB R.1 ∧ R.1.pm = pm ∧ R.1.am = am) := ⟨HP7.out.en, HP7.out.len, HP7.out.lim, HP7.out.pm, HP7.out.am⟩
            have H51 : Hid (w1.heap.size ≤ w5.heap.size) := HB5.out.size
            clear h7b hrowb hb8b hcz hrm hcv hwz rz hgb2 hwb rb ra ba sa HP7 HBu7 HRow7 HS7 HB7 HE8 HG8 HB78 HR7 HB5 HB5w HBig hkI hd
            go_loopw [22] (fun jv wx => ∃ (j : Nat) (l : List UInt8), j ≤ k ∧ jv = .int .i64 (j : Int) ∧ Hid (l.length = k) ∧ Hid (wx.ownsRow w5.heap.size 5 1 (.slice ab k cb) l.length (l.map bv)) ∧ Hid (BuP (fun g => w1.heap.size ≤ g ∧ ¬ (Value.slice ab k cb).ownBlock = some g) wx gb R.1) ∧ Hid (BlkAt g11 40 (bfD R.1 (.slice az nz kz)) wx) ∧ Hid (EnR wx (.slice az nz kz) R.1.l) ∧ Hid (Below w1.heap.size w1 wx)) (fun jv _ => k - (intOf jv).toNat)
            case atStart => exact ⟨0, BD, by omega, rfl, HBDl.out, HRowz.out, HBuz.out, HGz0.out, HEz0.out, HBz0.out⟩
            case round =>
              obtain ⟨j, l, hj, rfl, HLl, HRo, HBu, HGj, HEj, HBj⟩ := hrel
              clear HRowz HBuz HGz0 HEz0 HBz0
              by_cases hjk : j < k
              · have dj : decide ((j : Int) < (k : Int)) = true := decide_eq_true (by omega)
                have jI : (j : Int) < (k : Int) := by omega
                have hro := HRo.out
                rw [HLl.out] at hro
                have hro2 : wr.ownsRow w5.heap.size 5 1 (.slice ab k cb) l.length (l.map bv) := HRo.out
                obtain ⟨g, rfl, hge, -, hcell, hfree, hset⟩ := own_at HLl.out.symm hro2 hjk
                obtain ⟨x, hx⟩ : ∃ x : UInt8, x = l.getD j 0 := ⟨_, rfl⟩
                rw [← hx] at hcell
                obtain ⟨Xb, hXb⟩ : ∃ n : Nat, n = x.toNat := ⟨_, rfl⟩
                obtain ⟨Zb, hZb⟩ : ∃ n : Nat, n = (x ^^^ 255).toNat := ⟨_, rfl⟩
                have hxor : bits .xor .u8 (Xb : Int) 255 = (Zb : Int) := by rw [hXb, hZb]; exact byte_xor x 255
                have hs := hset (x ^^^ 255) (Zb : Int) (by rw [hZb])
                have hcz := Chg.of_wrote (Wrote.set g j wr (.int .u8 (Zb : Int)))
                have HRo2 : Hid ((wr.setCell ⟨g, j, none⟩ (.int .u8 (Zb : Int))).ownsRow w5.heap.size 5 1 (.slice (some ⟨g, 0, none⟩) k cb) (l.set j (x ^^^ 255)).length ((l.set j (x ^^^ 255)).map bv)) := hs
                have HBu2 : Hid (BuP (fun b => w1.heap.size ≤ b ∧ ¬ (Value.slice (some ⟨g, 0, none⟩) k cb).ownBlock = some b) (wr.setCell ⟨g, j, none⟩ (.int .u8 (Zb : Int))) gb R.1) := HBu.out.chg hcz fun b _ hb e => hb.2 (by rw [e]; rfl)
                have HGj2 : Hid (BlkAt g11 40 (bfD R.1 (.slice az nz kz)) (wr.setCell ⟨g, j, none⟩ (.int .u8 (Zb : Int)))) := BlkAt.chg HGj.out hcz fun e => own_neF hro2 HGj.out (by decide) g rfl e.symm
                have HEj2 : Hid (EnR (wr.setCell ⟨g, j, none⟩ (.int .u8 (Zb : Int))) (.slice az nz kz) R.1.l) := HEj.out.set8 hcell
                have HBj2 : Hid (Below w1.heap.size w1 (wr.setCell ⟨g, j, none⟩ (.int .u8 (Zb : Int)))) := (Wrote.set g j wr _).below _ _ (Nat.le_trans H51.out hge) HBj.out
                have HLl2 : Hid ((l.set j (x ^^^ 255)).length = k) := by show _ = _; rw [List.length_set]; exact HLl.out
                have hk2 : k ≤ 2000 := HKS.out
                rw [← hXb] at hcell
                clear hs hset hx hXb hZb hcz hro hro2 HBu HGj HEj HBj HRo
                go_wp2
                go_roundw
                case rel => exact ⟨j + 1, _, by omega, by go_num, HLl2, HRo2, HBu2, HGj2, HEj2, HBj2⟩
                case measure => simp [intOf] <;> omega
              · have hjk2 : j = k := by omega
                have dj : decide ((j : Int) < (k : Int)) = false := decide_eq_false (by omega)
                have jI : (k : Int) ≤ (j : Int) := by omega
                have HPz : Hid (PlB w1.heap.size gb pm am (i + 1) R.1 wr) := ⟨HBu.out.mono fun b _ hb => hb.1, HPf.out.1, HPf.out.2.1, HPf.out.2.2.1, HPf.out.2.2.2.1, HPf.out.2.2.2.2⟩
                have HGz : Hid (BlkAt g11 40 (bfD R.1 (.slice az nz kz)) wr) := HGj.out
                have HEz : Hid (EnR wr (.slice az nz kz) R.1.l) := HEj.out
                have HBz : Hid (Below w1.heap.size w1 wr) := HBj.out
                clear HBu HGj HEj HBj HRo HLl HPf hjk2 hjk hj
                have HHe : Hid (∀ W, Below wr.heap.size wr W → Calls Try.prog 22 #[pV gb, .string ⟨(nmF X).toArray⟩] W fun e w' => e = .returned (.int .i64 (hdB R.1.l (nmF X) : Int)) ∧ Below W.heap.size W w') := fun W hW => bheld_any _ (nmF X) gb _ W (HPz.out.bu.kept hW) HPz.out.en (by have := HPz.out.len; have := HI40.out; omega)
                have HTo : Hid (∀ W, Below wr.heap.size wr W → Calls Try.prog 19 #[pV gb] W fun e w' => e = .returned (.int .i64 (ttB R.1.l : Int)) ∧ Below W.heap.size W w') := fun W hW => btotal_any _ gb _ W (HPz.out.bu.kept hW) HPz.out.en (by have := HPz.out.len; have := HI40.out; omega)
                have HTr : Hid (∀ W, Below wr.heap.size wr W → Calls Try.prog 20 #[.agg (bfD R.1 (.slice az nz kz)).toArray] W fun e w' => e = .returned (.int .i64 (ttB R.1.l : Int)) ∧ Below W.heap.size W w') := fun W hW => total19_any R.1 (by have := HPz.out.len; have := HI40.out; omega) HPz.out.en _ _ rfl W (HEz.out.kept hW)
                have HHr : Hid (∀ W, Below wr.heap.size wr W → Calls Try.prog 23 #[.agg (bfD R.1 (.slice az nz kz)).toArray, .string ⟨(nmF X).toArray⟩] W fun e w' => e = .returned (.int .i64 (hdB R.1.l (nmF X) : Int)) ∧ Below W.heap.size W w') := fun W hW => held19_any R.1 (nmF X) (by have := HPz.out.len; have := HI40.out; omega) HPz.out.en _ _ rfl W (HEz.out.kept hW)
                have HCo : Hid (∀ W, Below wr.heap.size wr W → Calls Try.prog 21 #[pV gb] W fun e w' => e = .returned (.int .i64 (nz : Int)) ∧ w' = W) := by
                  show ∀ W, _
                  intro W hW
                  rw [HNz.out]
                  exact bcount_any _ gb _ W (HPz.out.bu.kept hW)
                have HCe : Hid (∀ W, Below wr.heap.size wr W → W.cell? ⟨g11, 3, none⟩ = some (.slice az nz kz)) := by
                  show ∀ W, _
                  intro W hW
                  exact BlkAt.cell (BlkAt.kept HGz.out hW) 3
                generalize hdB R.1.l (nmF X) = hd at HHe HHr
                generalize ttB R.1.l = tt at HTo HTr
                have i40 : i < 40 := HI40.out
                go_wp2_with fail
                refine wpG_begin (by kernel_rfl) ?_
                refine gU_ 0 rfl ⟨_, by intro W hW; go_simp <;> with_reducible rfl, ?_⟩
                try simp only [Act.put, pA_, pB_, pC_]
                refine gU_ 2 rfl ⟨_, by intro W hW; refine Eq.trans (exec_load_part 40 _ (by rfl) (by rfl) [] (bfD R.1 (.slice az nz kz)) [] HGz.out (stepB (Below.refl _ _).drew hW) (by simp) rfl Try.underlying40 rfl (infoBf _ _)) ?_; with_reducible rfl, ?_⟩
                try simp only [Act.put, pA_, pB_, pC_]
                refine gD_ 1 fun K hK => ?_
                go_simp
                refine (HTo.out _ (Below.refl _ _).drew).mono ?_
                rintro e x1 ⟨rfl, y1⟩
                refine hK.out _ _ y1 ?_
                clear hK K
                try simp only [Act.put, pA_, pB_, pC_]
                refine gD_ 3 fun K hK => ?_
                go_simp
                refine (HTr.out _ (stepB (Below.refl _ _).drew y1)).mono ?_
                rintro e x2 ⟨rfl, y2⟩
                refine hK.out _ _ y2 ?_
                clear hK K
                try simp only [Act.put, pA_, pB_, pC_]
                refine gU_ 4 rfl ⟨_, by intro W hW; go_simp <;> with_reducible rfl, ?_⟩
                try simp only [Act.put, pA_, pB_, pC_]
                refine gU_ 5 rfl ⟨_, by intro W hW; go_simp <;> with_reducible rfl, ?_⟩
                try simp only [Act.put, pA_, pB_, pC_]
                refine gU_ 6 rfl ⟨_, by intro W hW; go_simp <;> with_reducible rfl, ?_⟩
                try simp only [Act.put, pA_, pB_, pC_]
                refine gU_ 8 rfl ⟨_, by intro W hW; go_simp <;> with_reducible rfl, ?_⟩
                try simp only [Act.put, pA_, pB_, pC_]
                refine gU_ 9 rfl ⟨_, by intro W hW; have hc := HCe.out W (stepB (stepB (stepB (Below.refl _ _).drew y1) y2) hW); go_simp <;> with_reducible rfl, ?_⟩
                try simp only [Act.put, pA_, pB_, pC_]
                refine gU_ 10 rfl ⟨_, by intro W hW; go_simp <;> with_reducible rfl, ?_⟩
                try simp only [Act.put, pA_, pB_, pC_]
                refine gD_ 7 fun K hK => ?_
                go_simp
                refine (HCo.out _ (stepB (stepB (Below.refl _ _).drew y1) y2)).mono ?_
                rintro e x3 ⟨rfl, rfl⟩
                refine hK.out _ _ (Below.refl _ _) ?_
                clear hK K
                try simp only [Act.put, pA_, pB_, pC_]
                refine gU_ 11 rfl ⟨_, by intro W hW; go_simp <;> with_reducible rfl, ?_⟩
                try simp only [Act.put, pA_, pB_, pC_]
                refine gU_ 12 rfl ⟨_, by intro W hW; go_simp <;> with_reducible rfl, ?_⟩
                try simp only [Act.put, pA_, pB_, pC_]
                refine gU_ 13 rfl ⟨_, by intro W hW; go_simp <;> with_reducible rfl, ?_⟩
                try simp only [Act.put, pA_, pB_, pC_]
                refine gU_ 14 rfl ⟨_, by intro W hW; go_simp <;> with_reducible rfl, ?_⟩
                try simp only [Act.put, pA_, pB_, pC_]
                refine gU_ 15 rfl ⟨_, by intro W hW; go_simp <;> with_reducible rfl, ?_⟩
                try simp only [Act.put, pA_, pB_, pC_]
                refine gU_ 17 rfl ⟨_, by intro W hW; refine Eq.trans (exec_load_part 40 _ (by rfl) (by rfl) [] (bfD R.1 (.slice az nz kz)) [] HGz.out (stepB (stepB (stepB (Below.refl _ _).drew y1) y2) hW) (by simp) rfl Try.underlying40 rfl (infoBf _ _)) ?_; with_reducible rfl, ?_⟩
                try simp only [Act.put, pA_, pB_, pC_]
                refine gU_ 18 rfl ⟨_, by intro W hW; go_simp <;> with_reducible rfl, ?_⟩
                try simp only [Act.put, pA_, pB_, pC_]
                refine gD_ 16 fun K hK => ?_
                go_simp
                refine (HHe.out _ (stepB (stepB (Below.refl _ _).drew y1) y2)).mono ?_
                rintro e x4 ⟨rfl, y4⟩
                refine hK.out _ _ y4 ?_
                clear hK K
                try simp only [Act.put, pA_, pB_, pC_]
                refine gD_ 19 fun K hK => ?_
                go_simp
                refine (HHr.out _ (stepB (stepB (stepB (Below.refl _ _).drew y1) y2) y4)).mono ?_
                rintro e x5 ⟨rfl, y5⟩
                refine hK.out _ _ y5 ?_
                clear hK K
                try simp only [Act.put, pA_, pB_, pC_]
                refine gU_ 20 rfl ⟨_, by intro W hW; go_simp <;> with_reducible rfl, ?_⟩
                try simp only [Act.put, pA_, pB_, pC_]
                refine gU_ 21 rfl ⟨_, by intro W hW; go_simp <;> with_reducible rfl, ?_⟩
                try simp only [Act.put, pA_, pB_, pC_]
                refine wpG_done (by kernel_rfl) ?_
                have hz5 : Below wr.heap.size wr x5 := stepB (stepB (stepB (stepB (Below.refl _ _).drew y1) y2) y4) y5
                have HP9 : Hid (PlB w1.heap.size gb pm am (i + 1) R.1 x5) := HPz.out.kept hz5
                have HG9 : Hid (BlkAt g11 40 (bfD R.1 (.slice az nz kz)) x5) := BlkAt.kept HGz.out hz5
                have HE9 : Hid (EnR x5 (.slice az nz kz) R.1.l) := HEz.out.kept hz5
                have HB9 : Hid (Below w1.heap.size w1 x5) := stepB HBz.out hz5
                clear hz5 y1 y2 y4 y5 HHe HTo HTr HHr HCo HCe HPz HGz HEz HBz
                go_wp2
                go_roundw
                case rel => exact ⟨i + 1, R.1, az, nz, kz, by omega, by go_num, HP9, HG9, HE9, HNz, HB9⟩
                case measure => simp [intOf] <;> omega
    · have HBf : Hid (Below w.heap.size w wr) := HB1.out.trans (HBx.out.mono HB1.out.size)
      have hends : (decide ((i : Int) < (N : Int)) = false ∧ (N : Int) ≤ (i : Int)) ∨ (decide ((i : Int) < (N : Int)) = true ∧ (i : Int) < (N : Int) ∧ decide ((i : Int) < 40) = false ∧ decide (i < 40) = false ∧ (40 : Int) ≤ (i : Int)) := by
        by_cases h : i < N
        · exact .inr ⟨decide_eq_true (by omega), by omega, decide_eq_false (by omega), decide_eq_false (by omega), by omega⟩
        · exact .inl ⟨decide_eq_false (by omega), by omega⟩
      clear HP HG HE HNu HBx hin hi
      rcases hends with ⟨hd, hd2⟩ | ⟨hd, hd2, hd3, hd4, hd5⟩
      · go_wp2
        go_ret
        exact ⟨rfl, HBf.out⟩
      · go_wp2
        go_ret
        exact ⟨rfl, HBf.out⟩
end Go.Proofs.Ytkljklfejaojaaa
