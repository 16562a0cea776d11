/- A state under any script of steps: the law's walk. -/
import Derived.Test.YtdlmmcilembjgaaGreatDoorGg
import Derived.Test.YtdlmmcilembjgaaGreatDoorGh
namespace Go.Proofs.YtdlmmcilembjgaaGreatDoor
open Go.ChangeShapes Go.WideShapes Go.ChangeAt Go.RowKit
set_option linter.unusedSimpArgs false
set_option linter.unusedVariables false

theorem range_three {w : World} {b o : Nat} {u v x : Value} (h0 : w.cell? ⟨b, o, none⟩ = some u) (h1 : w.cell? ⟨b, o + 1, none⟩ = some v) (h2 : w.cell? ⟨b, o + 2, none⟩ = some x) : w.rangeAt b o [u, v, x] := by
 intro j y hj
 match j, hj with
 | 0, hj => simp at hj; subst hj; exact h0
 | 1, hj => simp at hj; subst hj; exact h1
 | 2, hj => simp at hj; subst hj; exact h2
theorem act_at {w : World} {a : Option Addr} {n c : Nat} {ks : Acs} (h : AcR w (.slice a n c) ks) {k : Nat} (hk : k < ks.length) : ∃ b off a' c' kd B N, a = some ⟨b, off, none⟩ ∧ (kd, B, N) ∈ ks ∧ w.cell? ⟨b, off + k * 3, none⟩ = some (.int .i64 kd) ∧ w.cell? ⟨b, off + k * 3 + 1, none⟩ = some (.slice a' B.length c') ∧ w.cell? ⟨b, off + k * 3 + 2, none⟩ = some (.int .u64 ((N : Nat) : Int)) ∧ Rd w (.slice a' B.length c') B ∧ B.length ≤ c' ∧ c' ≤ maxLen := by
 obtain ⟨a', cap', ev, -, -, h5⟩ := h
 simp only [Value.slice.injEq] at ev
 obtain ⟨rfl, -, rfl⟩ := ev
 rcases h5 with h5 | ⟨b, off, rfl, hc⟩
 ·subst h5
  simp at hk
 obtain ⟨vb, g1, g2, g3, g4⟩ := hc k hk
 obtain ⟨at', ct, rfl, hv2, hv3, -, -⟩ := id g4
 rw [show off + 3 * k = off + k * 3 by omega] at g1
 rw [show off + (3 * k + 1) = off + k * 3 + 1 by omega] at g2
 rw [show off + (3 * k + 2) = off + k * 3 + 2 by omega] at g3
 exact ⟨b, off, at', ct, ks[k].1, ks[k].2.1, ks[k].2.2, rfl, List.getElem_mem hk, g1, g2, g3, g4, hv2, hv3⟩
theorem infoAct : (Tryz.prog.info? 34).map (·.size) = some 3 := by kernel_rfl
def acC (k : Int) (v : Value) (n : Nat) : List Value := [.int .i64 k, v, .int .u64 (n : Int)]
theorem StP.blk {base g k : Nat} {s : Sta} {w w' : World} {ty : TypeId} {cs : List Value} (h : StP base g s w) (hb : BlkAt k ty cs w) (hne : (5 : TypeId) ≠ ty) (hgk : g ≠ k) (c : Chg (fun b => b = k) w w') : StP base g s w' := by
 obtain ⟨vc, vh, vk, q1, q2, q3, q4⟩ := h
 exact ⟨vc, vh, vk, q1.chg c hgk, q2.chg hb hne c, q3.chg hb hne c, q4.chg hb hne c⟩
theorem StP.num {base g : Nat} {s : Sta} {w : World} (h : StP base g s w) (m : Nat) : ∃ v, w.cell? ⟨g, 3, none⟩ = some v ∧ w.frozen? ⟨g, 3, none⟩ = false ∧ StP base g ⟨s.ck, s.h, ⟨s.c.key, m⟩⟩ (w.setCell ⟨g, 3, none⟩ (.int .u64 (m : Int))) := by
 obtain ⟨vc, vh, vk, q1, q2, q3, q4⟩ := h
 have c := Chg.of_wrote (Wrote.set g 3 w (.int .u64 (m : Int)))
 exact ⟨_, q1.cell 3, q1.free 3, vc, vh, vk, BlkAt.set q1 3 _, q2.chg q1 ne_state c, q3.chg q1 ne_state c, q4.chg q1 ne_state c⟩
theorem and1_64 (M : Nat) (h : M < 18446744073709551616) : bits .and .u64 (M : Int) 1 = ((M % 2 : Nat) : Int) := by
 have := andI M 1 h (by decide)
 rw [Nat.and_one_is_mod] at this
 exact this
theorem odd16_yes {M : Nat} (h : M < 18446744073709551616) (h1 : M % 2 = 1) : (bits .and .u64 (M : Int) 1 == 1) = true := by
 rw [and1_64 M h, h1]
 rfl
theorem odd16_no {M : Nat} (h : M < 18446744073709551616) (h1 : M % 2 ≠ 1) : (bits .and .u64 (M : Int) 1 == 1) = false := by
 rw [and1_64 M h, show M % 2 = 0 by omega]
 rfl
theorem ne_refs : (5 : TypeId) ≠ 31 := by decide
set_option maxRecDepth 100000 in
set_option maxHeartbeats 16000000 in
theorem plays_walk (v : Value) (l : List UInt8) (ks : Acs) (hm : l.length ≤ maxLen) (hks : ∀ q ∈ ks, (Lit.int .i64 q.1).wf = true ∧ q.2.2 < 18446744073709551616) (w : World) (hL : AcR w v ks) (ht : Tabs w) (hp : PlT w) (hk : KpT w) :
  Calls Tryz.prog 3 #[.string ⟨l.toArray⟩, v] w fun e w' => e = .returned (.bool true) ∧ Below w.heap.size w w' := by
 have hsz : (⟨l.toArray⟩ : ByteArray).size = l.length := by simp [ByteArray.size]
 have HT : Hid (Tabs w) := ht
 have HP : Hid (PlT w) := hp
 have HK : Hid (KpT w) := hk
 have HKs : Hid _ := hks
 obtain ⟨av, cv, rfl, hcv, hmv, -⟩ := id hL
 have HL : Hid (AcR w (.slice av ks.length cv) ks) := hL
 unfold maxLen at hm hmv
 clear ht hp hk hL hks
 go_enter Tryz.func3, Tryz.ntmps3
 go_wp2_with fail
 refine (awake_any w HT.out HP.out HK.out).mono ?_
 rintro e w1 ⟨rfl, b1⟩
 by_cases hlong : 300 < l.length
 ·have HB1 : Hid _ := b1
  clear b1
  have d1 : decide ((300 : Int) < (l.length : Int)) = true := decide_eq_true (by omega)
  go_wp2_with fail
  go_ret
  exact ⟨rfl, HB1.out⟩
 have d1 : decide ((300 : Int) < (l.length : Int)) = false := decide_eq_false (by omega)
 have HLn : Hid (l.length ≤ 300) := (by omega : l.length ≤ 300)
 clear hlong hm
 go_wp2_with fail
 refine (snew_any l (by have := HLn.out; omega) _ (HT.out.kept b1)).mono ?_
 rintro e w2 ⟨g, rfl, hg, hS, b2⟩
 have HS : Hid (StP w.heap.size g (nwS l) w2) := hS.mono b1.size
 have HG : Hid (w.heap.size ≤ g) := Nat.le_trans b1.size hg
 have HB2 : Hid (Below w.heap.size w w2) := stepB b1 b2
 clear hS b1 b2 hg d1
 go_wp2_with fail
 refine (new16_any l (by have := HLn.out; omega) _).mono ?_
 rintro e w3 ⟨x, rfl, hx, b3⟩
 obtain ⟨ax, cx, rfl, -⟩ := id hx
 have HX3 : Hid (Rd w3 (.slice ax (nwH l).length cx) (nwH l)) := hx
 go_wp2_with (first | (refine wpList_alloc_blk rfl 31 rfl (saC (.slice none 0 0) (.slice none 0 0) (.slice none 0 0) 0) (alloc_sa _) ?_; intro wa ra ba sa) | (refine wpList_store_part rfl 31 _ _ rfl rfl (saC (.slice ax (nwH l).length cx) (.slice ax (nwH l).length cx) (.slice none 0 0) 0) rfl [] (saC (.slice none 0 0) (.slice none 0 0) (.slice none 0 0) 0) [] (saC (.slice ax (nwH l).length cx) (.slice ax (nwH l).length cx) (.slice none 0 0) 0) ra (whole16 _) (whole16 _) rfl rfl (info_sa (.slice none 0 0) (.slice none 0 0) (.slice none 0 0) 0) (saC_all _ _ _ _ _ _ _ _ _ _) ?_; intro w4 r4 hw4))
 have b34 : Below w3.heap.size w3 w4 := hw4.below _ _ (Nat.le_refl _) ba
 have b24 := stepB b3 b34
 obtain ⟨gr, hgr⟩ : ∃ gr, gr = w3.heap.size := ⟨_, rfl⟩
 rw [← hgr] at r4 ⊢
 have HNe : Hid (g ≠ gr) := (by have := HS.out.lt; have := b3.size; omega : g ≠ gr)
 have HGr : Hid (w.heap.size ≤ gr) := (by have := HB2.out.size; have := b3.size; omega : w.heap.size ≤ gr)
 have HR4 : Hid (BlkAt gr 31 (saC (.slice ax (nwH l).length cx) (.slice ax (nwH l).length cx) (.slice none 0 0) (nwS l).c.n) w4) := r4
 have HX4 : Hid (Rd w4 (.slice ax (nwH l).length cx) (nwH l)) := HX3.out.kept b34
 replace HS : Hid (StP w.heap.size g (nwS l) w4) := HS.out.kept b24
 have HB4 : Hid (Below w.heap.size w w4) := stepB HB2.out b24
 clear hgr r4 hw4 ra ba sa b3 b34 b24 HX3 HB2 hx
 go_loopw [8] (fun iv wx => ∃ (i : Nat) (s : Sta) (uc uh uk : Value), i ≤ 10 ∧ iv = .int .i64 (i : Int) ∧ Hid (Sound s) ∧ Hid (StP w.heap.size g s wx) ∧ Hid (BlkAt gr 31 (saC uc uh uk s.c.n) wx) ∧ Hid (Rd wx uc s.ck) ∧ Hid (Rd wx uh s.h) ∧ Hid (Rd wx uk s.c.key) ∧ Hid (Below w.heap.size w wx)) (fun iv _ => 10 - (intOf iv).toNat)
 case atStart => exact ⟨0, nwS l, _, _, _, by omega, rfl, Sound.nw l, HS.out, HR4.out, HX4.out, HX4.out, Rd.nil _, HB4.out⟩
 case round =>
  obtain ⟨i, s, uc, uh, uk, hi, rfl, HSo, HS, HR, HUc, HUh, HUk, HB⟩ := hrel
  clear HR4 HX4 HB4
  rename World => wx
  obtain ⟨ac, cc, rfl, -⟩ := id HUc.out
  obtain ⟨ah, ch, rfl, -⟩ := id HUh.out
  obtain ⟨ak, ck, rfl, -⟩ := id HUk.out
  by_cases hin : i < ks.length ∧ i < 10
  ·obtain ⟨hin1, hin6⟩ := hin
   have d3 : decide ((i : Int) < (ks.length : Int)) = true := decide_eq_true (by omega)
   have d4 : decide ((i : Int) < 10) = true := decide_eq_true (by omega)
   have hiI : (i : Int) < (ks.length : Int) := by omega
   obtain ⟨b, off, a', c', kd, B, M, rfl, hmem, k0, k1, k2, k3, hcb, hmb⟩ := act_at (HL.out.kept HB.out) hin1
   have HKd : Hid ((Lit.int .i64 kd).wf = true ∧ M < 18446744073709551616) := HKs.out _ hmem
   have HBr : Hid (Rd wx (.slice a' B.length c') B) := k3
   unfold maxLen at hmb
   have hrg := range_three k0 k1 k2
   clear k0 k1 k2 k3 hmem
   by_cases h5 : 500 < B.length
   ·have d5 : decide ((500 : Int) < (B.length : Int)) = true := decide_eq_true (by omega)
    go_wp2_with (first | refine wpList_load_mid rfl 34 _ rfl b (off + i * 3) rfl [.int .i64 kd, .slice a' B.length c', .int .u64 (M : Int)] _ hrg Tryz.underlying34 rfl infoAct ?_)
    go_ret
    exact ⟨rfl, stepB HB.out (growB _)⟩
   have d5 : decide ((500 : Int) < (B.length : Int)) = false := decide_eq_false (by omega)
   have HL5 : Hid (B.length ≤ 500) := (by omega : B.length ≤ 500)
   clear h5
   have bb : Below wx.heap.size wx (wx.alloc (.cells #[.int .i64 kd, .slice a' B.length c', .int .u64 (M : Int)] 34)) := growB _
   have HAb : Hid (BlkAt wx.heap.size 34 (acC kd (.slice a' B.length c') M) (wx.alloc (.cells #[.int .i64 kd, .slice a' B.length c', .int .u64 (M : Int)] 34))) := (BlkAt.fresh rfl rfl : BlkAt wx.heap.size 34 (acC kd (.slice a' B.length c') M) (wx.alloc (.cells #[.int .i64 kd, .slice a' B.length c', .int .u64 (M : Int)] 34)))
   have HSb : Hid (StP w.heap.size g s (wx.alloc (.cells #[.int .i64 kd, .slice a' B.length c', .int .u64 (M : Int)] 34))) := HS.out.kept bb
   have HRb : Hid (BlkAt gr 31 (saC (.slice ac s.ck.length cc) (.slice ah s.h.length ch) (.slice ak s.c.key.length ck) s.c.n) (wx.alloc (.cells #[.int .i64 kd, .slice a' B.length c', .int .u64 (M : Int)] 34))) := BlkAt.kept HR.out bb
   have HUcb : Hid (Rd (wx.alloc (.cells #[.int .i64 kd, .slice a' B.length c', .int .u64 (M : Int)] 34)) (.slice ac s.ck.length cc) s.ck) := HUc.out.kept bb
   have HUhb : Hid (Rd (wx.alloc (.cells #[.int .i64 kd, .slice a' B.length c', .int .u64 (M : Int)] 34)) (.slice ah s.h.length ch) s.h) := HUh.out.kept bb
   have HUkb : Hid (Rd (wx.alloc (.cells #[.int .i64 kd, .slice a' B.length c', .int .u64 (M : Int)] 34)) (.slice ak s.c.key.length ck) s.c.key) := HUk.out.kept bb
   have HBrb : Hid (Rd (wx.alloc (.cells #[.int .i64 kd, .slice a' B.length c', .int .u64 (M : Int)] 34)) (.slice a' B.length c') B) := HBr.out.kept bb
   have HBb : Hid (Below w.heap.size w (wx.alloc (.cells #[.int .i64 kd, .slice a' B.length c', .int .u64 (M : Int)] 34))) := stepB HB.out bb
   have HNa : Hid (wx.heap.size ≠ g) := (by have := HS.out.lt; omega : wx.heap.size ≠ g)
   have HNr : Hid (wx.heap.size ≠ gr) := (by have := BlkAt.lt HR.out; omega : wx.heap.size ≠ gr)
   clear bb HS HR HUc HUh HUk HBr
   obtain ⟨r, hr⟩ : ∃ r, r = kd.tmod 6 := ⟨_, rfl⟩
   have hcase : r = 0 ∨ r = 1 ∨ r = 2 ∨ r = 3 ∨ (r = 4 ∧ M % 2 = 1) ∨ (r = 4 ∧ M % 2 ≠ 1) ∨ (r ≠ 0 ∧ r ≠ 1 ∧ r ≠ 2 ∧ r ≠ 3 ∧ r ≠ 4) := by omega
   rcases hcase with h0 | h0 | h0 | h0 | ⟨h0, h1⟩ | ⟨h0, h1⟩ | ⟨h0, h1, h2, h3, h4⟩
   focus
    have q0 : (kd.tmod 6 == 0) = true := by rw [← hr, h0]; rfl
    clear hr h0
    obtain ⟨s1, hs1⟩ : ∃ s1, s1 = mkS s B := ⟨_, rfl⟩
    have e1 : s1.ck = k1F s.ck B := by rw [hs1]; rfl
    have e2 : s1.h = s.h := by rw [hs1]; rfl
    have e3 : s1.c.key = k2F s.ck B := by rw [hs1]; rfl
    have e4 : s1.c.n = 0 := by rw [hs1]; rfl
    have HSo1 : Hid (Sound s1) := (by rw [hs1]; exact HSo.out.mx B : Sound s1)
    have HM : Hid (mkS s B = s1) := hs1.symm
    have HE1 : Hid (k1F s.ck B = s1.ck) := e1.symm
    have HE2 : Hid (s1.h = s.h) := e2
    have HE3 : Hid (k2F s.ck B = s1.c.key) := e3.symm
    have HE4 : Hid (s1.c.n = 0) := e4
    clear hs1 e1 e2 e3 e4
    go_wp2_with (first | refine wpList_load_mid rfl 34 _ rfl b (off + i * 3) rfl [.int .i64 kd, .slice a' B.length c', .int .u64 (M : Int)] _ hrg Tryz.underlying34 rfl infoAct ?_)
    refine (smixkey_any w.heap.size g s _ B (by have := HL5.out; omega) _ HBb.out.size HSb.out HBrb.out (HT.out.kept HBb.out)).mono ?_
    rintro e wc ⟨rfl, hSc, cg⟩
    rw [HM.out] at hSc
    have HSc : Hid (StP w.heap.size g s1 wc) := hSc
    have HRc : Hid (BlkAt gr 31 (saC (.slice ac s.ck.length cc) (.slice ah s.h.length ch) (.slice ak s.c.key.length ck) s.c.n) wc) := BlkAt.chg HRb.out cg HNe.out.symm
    have HUcc : Hid (Rd wc (.slice ac s.ck.length cc) s.ck) := StP.far HUcb.out HSb.out cg
    have HUhc : Hid (Rd wc (.slice ah s.h.length ch) s.h) := StP.far HUhb.out HSb.out cg
    have HUkc : Hid (Rd wc (.slice ak s.c.key.length ck) s.c.key) := StP.far HUkb.out HSb.out cg
    have HBrc : Hid (Rd wc (.slice a' B.length c') B) := StP.far HBrb.out HSb.out cg
    have HAc : Hid (BlkAt wx.heap.size 34 (acC kd (.slice a' B.length c') M) wc) := BlkAt.chg HAb.out cg HNa.out
    have HBc : Hid (Below w.heap.size w wc) := Chg.gone HBb.out cg HBb.out.size HG.out
    have m1 : wc.cell? ⟨wx.heap.size, 1, none⟩ = some (.slice a' B.length c') := BlkAt.cell HAc.out 1
    clear hSc cg HSb HRb HUcb HUhb HUkb HBrb HAb HBb
    go_wp2_with (first | refine wpList_load_part rfl 31 _ rfl rfl [] (saC (.slice ac s.ck.length cc) (.slice ah s.h.length ch) (.slice ak s.c.key.length ck) s.c.n) [] HRc.out (whole16 _) rfl Tryz.underlying31 rfl (info_sa _ _ _ _) ?_)
    refine (mixkey16_any s _ _ _ _ B _ rfl (by rw [HSo.out.ck]; decide) (by have := HL5.out; omega) _ HUcc.out HUhc.out HUkc.out HBrc.out).mono ?_
    rintro e wd ⟨x, y, rfl, hx, hy, bd⟩
    rw [HE1.out] at hx
    rw [HE3.out] at hy
    obtain ⟨ax, cx, rfl, -⟩ := id hx
    obtain ⟨ay, cy, rfl, -⟩ := id hy
    have HX : Hid (Rd wd (.slice ax s1.ck.length cx) s1.ck) := hx
    have HY : Hid (Rd wd (.slice ay s1.c.key.length cy) s1.c.key) := hy
    have r8 := BlkAt.kept HRc.out bd
    have k1 := fun W => convS (Rd.nil W)
    clear hx hy
    go_wp2_with (first | (refine wpList_store_part rfl 31 _ _ rfl rfl (saC (.slice ax s1.ck.length cx) (.slice ah s.h.length ch) (.slice ay s1.c.key.length cy) 0) rfl [] (saC (.slice ac s.ck.length cc) (.slice ah s.h.length ch) (.slice ak s.c.key.length ck) s.c.n) [] (saC (.slice ax s1.ck.length cx) (.slice ah s.h.length ch) (.slice ay s1.c.key.length cy) 0) r8 (whole16 _) (whole16 _) rfl rfl (info_sa (.slice ac s.ck.length cc) (.slice ah s.h.length ch) (.slice ak s.c.key.length ck) s.c.n) (saC_all _ _ _ _ _ _ _ _ _ _) ?_; intro wz r9 hw9) | refine wpList_loadG16 31 _ rfl rfl (saC (.slice ax s1.ck.length cx) (.slice ah s.h.length ch) (.slice ay s1.c.key.length cy) 0) r9 Tryz.underlying31 rfl (info_sa _ _ _ _) (by go_simp; done) ?_)
    have cz := Chg.of_wrote hw9
    have HS1 : Hid (StP w.heap.size g s1 wz) := (HSc.out.kept bd).blk (BlkAt.kept HRc.out bd) ne_refs HNe.out cz
    have HBz : Hid (Below w.heap.size w wz) := hw9.below _ _ HGr.out (stepB HBc.out bd)
    have HC1 : Hid (Rd wz (.slice ax s1.ck.length cx) s1.ck) := Rd.past16 HX.out (BlkAt.kept HRc.out bd) (saC_no8 _ _ _ _ _ _ _ _ _ _) cz
    have HH1 : Hid (Rd wz (.slice ah s.h.length ch) s1.h) := (by rw [HE2.out]; exact Rd.past16 (HUhc.out.kept bd) (BlkAt.kept HRc.out bd) (saC_no8 _ _ _ _ _ _ _ _ _ _) cz : Rd wz (.slice ah s.h.length ch) s1.h)
    have HK1 : Hid (Rd wz (.slice ay s1.c.key.length cy) s1.c.key) := Rd.past16 HY.out (BlkAt.kept HRc.out bd) (saC_no8 _ _ _ _ _ _ _ _ _ _) cz
    have HAe : Hid ((saC (.slice ax s1.ck.length cx) (.slice ah s.h.length ch) (.slice ay s1.c.key.length cy) 0) = (saC (.slice ax s1.ck.length cx) (.slice ah s.h.length ch) (.slice ay s1.c.key.length cy) s1.c.n)) := (by rw [HE4.out] : (saC (.slice ax s1.ck.length cx) (.slice ah s.h.length ch) (.slice ay s1.c.key.length cy) 0) = (saC (.slice ax s1.ck.length cx) (.slice ah s.h.length ch) (.slice ay s1.c.key.length cy) s1.c.n))
    have HR1 : Hid _ := r9
    clear cz hw9 r9
   rotate_left
   focus
    have q0 : (kd.tmod 6 == 0) = false := by rw [← hr, h0]; rfl
    have q1 : (kd.tmod 6 == 1) = true := by rw [← hr, h0]; rfl
    clear hr h0
    obtain ⟨s1, hs1⟩ : ∃ s1, s1 = mhS s B := ⟨_, rfl⟩
    have HSo1 : Hid (Sound s1) := (by rw [hs1]; exact HSo.out.mh B : Sound s1)
    have HM : Hid (mhS s B = s1) := hs1.symm
    have HE1 : Hid (s1.ck = s.ck) := (by rw [hs1]; rfl : s1.ck = s.ck)
    have HE3 : Hid (s1.c.key = s.c.key) := (by rw [hs1]; rfl : s1.c.key = s.c.key)
    have HE4 : Hid (s.c.n = s1.c.n) := (by rw [hs1]; rfl : s.c.n = s1.c.n)
    clear hs1
    go_wp2_with (first | refine wpList_load_mid rfl 34 _ rfl b (off + i * 3) rfl [.int .i64 kd, .slice a' B.length c', .int .u64 (M : Int)] _ hrg Tryz.underlying34 rfl infoAct ?_)
    refine (smixhash_any w.heap.size g s _ B (by have := HL5.out; rw [HSo.out.h]; omega) _ HBb.out.size HSb.out HBrb.out (HT.out.kept HBb.out)).mono ?_
    rintro e wc ⟨rfl, hSc, cg⟩
    rw [HM.out] at hSc
    have HSc : Hid (StP w.heap.size g s1 wc) := hSc
    have HRc : Hid (BlkAt gr 31 (saC (.slice ac s.ck.length cc) (.slice ah s.h.length ch) (.slice ak s.c.key.length ck) s.c.n) wc) := BlkAt.chg HRb.out cg HNe.out.symm
    have HUcc : Hid (Rd wc (.slice ac s.ck.length cc) s.ck) := StP.far HUcb.out HSb.out cg
    have HUhc : Hid (Rd wc (.slice ah s.h.length ch) s.h) := StP.far HUhb.out HSb.out cg
    have HUkc : Hid (Rd wc (.slice ak s.c.key.length ck) s.c.key) := StP.far HUkb.out HSb.out cg
    have HBrc : Hid (Rd wc (.slice a' B.length c') B) := StP.far HBrb.out HSb.out cg
    have HAc : Hid (BlkAt wx.heap.size 34 (acC kd (.slice a' B.length c') M) wc) := BlkAt.chg HAb.out cg HNa.out
    have HBc : Hid (Below w.heap.size w wc) := Chg.gone HBb.out cg HBb.out.size HG.out
    have m1 : wc.cell? ⟨wx.heap.size, 1, none⟩ = some (.slice a' B.length c') := BlkAt.cell HAc.out 1
    clear hSc cg HSb HRb HUcb HUhb HUkb HBrb HAb HBb
    go_wp2_with (first | refine wpList_load_part rfl 31 _ rfl rfl [] (saC (.slice ac s.ck.length cc) (.slice ah s.h.length ch) (.slice ak s.c.key.length ck) s.c.n) [] HRc.out (whole16 _) rfl Tryz.underlying31 rfl (info_sa _ _ _ _) ?_)
    refine (mixhash16_any s _ _ _ _ B _ rfl (by have := HL5.out; rw [HSo.out.h]; omega) _ HUcc.out HUhc.out HUkc.out HBrc.out).mono ?_
    rintro e wd ⟨x, rfl, hx, bd⟩
    rw [HM.out] at hx
    obtain ⟨ax, cx, rfl, -⟩ := id hx
    have HX : Hid (Rd wd (.slice ax s1.h.length cx) s1.h) := hx
    have r8 := BlkAt.kept HRc.out bd
    have k1 := fun W => convS (Rd.nil W)
    clear hx
    go_wp2_with (first | (refine wpList_store_part rfl 31 _ _ rfl rfl (saC (.slice ac s.ck.length cc) (.slice ax s1.h.length cx) (.slice ak s.c.key.length ck) s.c.n) rfl [] (saC (.slice ac s.ck.length cc) (.slice ah s.h.length ch) (.slice ak s.c.key.length ck) s.c.n) [] (saC (.slice ac s.ck.length cc) (.slice ax s1.h.length cx) (.slice ak s.c.key.length ck) s.c.n) r8 (whole16 _) (whole16 _) rfl rfl (info_sa (.slice ac s.ck.length cc) (.slice ah s.h.length ch) (.slice ak s.c.key.length ck) s.c.n) (saC_all _ _ _ _ _ _ _ _ _ _) ?_; intro wz r9 hw9) | refine wpList_loadG16 31 _ rfl rfl (saC (.slice ac s.ck.length cc) (.slice ax s1.h.length cx) (.slice ak s.c.key.length ck) s.c.n) r9 Tryz.underlying31 rfl (info_sa _ _ _ _) (by go_simp; done) ?_)
    have cz := Chg.of_wrote hw9
    have HS1 : Hid (StP w.heap.size g s1 wz) := (HSc.out.kept bd).blk (BlkAt.kept HRc.out bd) ne_refs HNe.out cz
    have HBz : Hid (Below w.heap.size w wz) := hw9.below _ _ HGr.out (stepB HBc.out bd)
    have HC1 : Hid (Rd wz (.slice ac s.ck.length cc) s1.ck) := (by rw [HE1.out]; exact Rd.past16 (HUcc.out.kept bd) (BlkAt.kept HRc.out bd) (saC_no8 _ _ _ _ _ _ _ _ _ _) cz : Rd wz (.slice ac s.ck.length cc) s1.ck)
    have HH1 : Hid (Rd wz (.slice ax s1.h.length cx) s1.h) := Rd.past16 HX.out (BlkAt.kept HRc.out bd) (saC_no8 _ _ _ _ _ _ _ _ _ _) cz
    have HK1 : Hid (Rd wz (.slice ak s.c.key.length ck) s1.c.key) := (by rw [HE3.out]; exact Rd.past16 (HUkc.out.kept bd) (BlkAt.kept HRc.out bd) (saC_no8 _ _ _ _ _ _ _ _ _ _) cz : Rd wz (.slice ak s.c.key.length ck) s1.c.key)
    have HAe : Hid ((saC (.slice ac s.ck.length cc) (.slice ax s1.h.length cx) (.slice ak s.c.key.length ck) s.c.n) = (saC (.slice ac s.ck.length cc) (.slice ax s1.h.length cx) (.slice ak s.c.key.length ck) s1.c.n)) := (by rw [HE4.out] : (saC (.slice ac s.ck.length cc) (.slice ax s1.h.length cx) (.slice ak s.c.key.length ck) s.c.n) = (saC (.slice ac s.ck.length cc) (.slice ax s1.h.length cx) (.slice ak s.c.key.length ck) s1.c.n))
    have HR1 : Hid _ := r9
    clear cz hw9 r9
   rotate_left
   focus
    have q0 : (kd.tmod 6 == 0) = false := by rw [← hr, h0]; rfl
    have q1 : (kd.tmod 6 == 1) = false := by rw [← hr, h0]; rfl
    have q2 : (kd.tmod 6 == 2) = true := by rw [← hr, h0]; rfl
    clear hr h0
    obtain ⟨s1, hs1⟩ : ∃ s1, s1 = mbS s B := ⟨_, rfl⟩
    have HSo1 : Hid (Sound s1) := (by rw [hs1]; exact HSo.out.mb B : Sound s1)
    have HM : Hid (mbS s B = s1) := hs1.symm
    have HE4 : Hid (0 = s1.c.n) := (by rw [hs1]; rfl : 0 = s1.c.n)
    clear hs1
    go_wp2_with (first | refine wpList_load_mid rfl 34 _ rfl b (off + i * 3) rfl [.int .i64 kd, .slice a' B.length c', .int .u64 (M : Int)] _ hrg Tryz.underlying34 rfl infoAct ?_)
    refine (smixboth_any w.heap.size g s _ B (by have := HL5.out; omega) (by rw [HSo.out.h]; decide) _ HBb.out.size HG.out HSb.out HBrb.out w rfl HBb.out HT.out).mono ?_
    rintro e wc ⟨rfl, hSc, cg⟩
    rw [HM.out] at hSc
    have HSc : Hid (StP w.heap.size g s1 wc) := hSc
    have HRc : Hid (BlkAt gr 31 (saC (.slice ac s.ck.length cc) (.slice ah s.h.length ch) (.slice ak s.c.key.length ck) s.c.n) wc) := BlkAt.chg HRb.out cg HNe.out.symm
    have HUcc : Hid (Rd wc (.slice ac s.ck.length cc) s.ck) := StP.far HUcb.out HSb.out cg
    have HUhc : Hid (Rd wc (.slice ah s.h.length ch) s.h) := StP.far HUhb.out HSb.out cg
    have HUkc : Hid (Rd wc (.slice ak s.c.key.length ck) s.c.key) := StP.far HUkb.out HSb.out cg
    have HBrc : Hid (Rd wc (.slice a' B.length c') B) := StP.far HBrb.out HSb.out cg
    have HAc : Hid (BlkAt wx.heap.size 34 (acC kd (.slice a' B.length c') M) wc) := BlkAt.chg HAb.out cg HNa.out
    have HBc : Hid (Below w.heap.size w wc) := Chg.gone HBb.out cg HBb.out.size HG.out
    have m1 : wc.cell? ⟨wx.heap.size, 1, none⟩ = some (.slice a' B.length c') := BlkAt.cell HAc.out 1
    clear hSc cg HSb HRb HUcb HUhb HUkb HBrb HAb HBb
    go_wp2_with (first | refine wpList_load_part rfl 31 _ rfl rfl [] (saC (.slice ac s.ck.length cc) (.slice ah s.h.length ch) (.slice ak s.c.key.length ck) s.c.n) [] HRc.out (whole16 _) rfl Tryz.underlying31 rfl (info_sa _ _ _ _) ?_)
    refine (mixboth16_any s _ _ _ _ B _ rfl (by rw [HSo.out.ck]; decide) (by have := HL5.out; omega) (by rw [HSo.out.h]; decide) _ HUcc.out HUhc.out HUkc.out HBrc.out).mono ?_
    rintro e wd ⟨x, z, y, rfl, hx, hz, hy, bd⟩
    rw [HM.out] at hx hz hy
    obtain ⟨ax, cx, rfl, -⟩ := id hx
    obtain ⟨ay, cy, rfl, -⟩ := id hy
    obtain ⟨az, cz', rfl, -⟩ := id hz
    have HX : Hid (Rd wd (.slice ax s1.ck.length cx) s1.ck) := hx
    have HY : Hid (Rd wd (.slice ay s1.c.key.length cy) s1.c.key) := hy
    have HZ : Hid (Rd wd (.slice az s1.h.length cz') s1.h) := hz
    have r8 := BlkAt.kept HRc.out bd
    have k1 := fun W => convS (Rd.nil W)
    clear hx hy hz
    go_wp2_with (first | (refine wpList_store_part rfl 31 _ _ rfl rfl (saC (.slice ax s1.ck.length cx) (.slice az s1.h.length cz') (.slice ay s1.c.key.length cy) 0) rfl [] (saC (.slice ac s.ck.length cc) (.slice ah s.h.length ch) (.slice ak s.c.key.length ck) s.c.n) [] (saC (.slice ax s1.ck.length cx) (.slice az s1.h.length cz') (.slice ay s1.c.key.length cy) 0) r8 (whole16 _) (whole16 _) rfl rfl (info_sa (.slice ac s.ck.length cc) (.slice ah s.h.length ch) (.slice ak s.c.key.length ck) s.c.n) (saC_all _ _ _ _ _ _ _ _ _ _) ?_; intro wz r9 hw9) | refine wpList_loadG16 31 _ rfl rfl (saC (.slice ax s1.ck.length cx) (.slice az s1.h.length cz') (.slice ay s1.c.key.length cy) 0) r9 Tryz.underlying31 rfl (info_sa _ _ _ _) (by go_simp; done) ?_)
    have cz := Chg.of_wrote hw9
    have HS1 : Hid (StP w.heap.size g s1 wz) := (HSc.out.kept bd).blk (BlkAt.kept HRc.out bd) ne_refs HNe.out cz
    have HBz : Hid (Below w.heap.size w wz) := hw9.below _ _ HGr.out (stepB HBc.out bd)
    have HC1 : Hid (Rd wz (.slice ax s1.ck.length cx) s1.ck) := Rd.past16 HX.out (BlkAt.kept HRc.out bd) (saC_no8 _ _ _ _ _ _ _ _ _ _) cz
    have HH1 : Hid (Rd wz (.slice az s1.h.length cz') s1.h) := Rd.past16 HZ.out (BlkAt.kept HRc.out bd) (saC_no8 _ _ _ _ _ _ _ _ _ _) cz
    have HK1 : Hid (Rd wz (.slice ay s1.c.key.length cy) s1.c.key) := Rd.past16 HY.out (BlkAt.kept HRc.out bd) (saC_no8 _ _ _ _ _ _ _ _ _ _) cz
    have HAe : Hid ((saC (.slice ax s1.ck.length cx) (.slice az s1.h.length cz') (.slice ay s1.c.key.length cy) 0) = (saC (.slice ax s1.ck.length cx) (.slice az s1.h.length cz') (.slice ay s1.c.key.length cy) s1.c.n)) := (by rw [← HE4.out] : (saC (.slice ax s1.ck.length cx) (.slice az s1.h.length cz') (.slice ay s1.c.key.length cy) 0) = (saC (.slice ax s1.ck.length cx) (.slice az s1.h.length cz') (.slice ay s1.c.key.length cy) s1.c.n))
    have HR1 : Hid _ := r9
    clear cz hw9 r9
   rotate_left
   focus
    have q0 : (kd.tmod 6 == 0) = false := by rw [← hr, h0]; rfl
    have q1 : (kd.tmod 6 == 1) = false := by rw [← hr, h0]; rfl
    have q2 : (kd.tmod 6 == 2) = false := by rw [← hr, h0]; rfl
    have q3 : (kd.tmod 6 == 3) = true := by rw [← hr, h0]; rfl
    clear hr h0
    have hkeep := seS_keeps s B HSo.out.n
    have hso := HSo.out.se B
    obtain ⟨Q, hQ⟩ : ∃ Q, Q = seS s B := ⟨_, rfl⟩
    rw [← hQ] at hkeep hso
    obtain ⟨s1, X, E⟩ := Q
    have HQ : Hid ((s1, X, E) = seS s B) := hQ
    have HSo1 : Hid (Sound s1) := hso
    have HE1 : Hid (s1.ck = s.ck) := hkeep.1
    have HE3 : Hid (s1.c.key = s.c.key) := hkeep.2
    clear hkeep hso hQ
    go_wp2_with (first | refine wpList_load_mid rfl 34 _ rfl b (off + i * 3) rfl [.int .i64 kd, .slice a' B.length c', .int .u64 (M : Int)] _ hrg Tryz.underlying34 rfl infoAct ?_)
    refine (sseal_any w.heap.size g s HSo.out.n _ B (by have := HL5.out; omega) (by rw [HSo.out.h]; decide) _ HG.out HSb.out HBrb.out w rfl HBb.out HT.out HP.out HK.out).mono ?_
    rw [← HQ.out]
    rintro e wc ⟨x, rfl, hx, hSc, cg⟩
    replace hx : Ow 5 _ x X wc := hx
    have HSc : Hid (StP w.heap.size g s1 wc) := hSc
    have HRc : Hid (BlkAt gr 31 (saC (.slice ac s.ck.length cc) (.slice ah s.h.length ch) (.slice ak s.c.key.length ck) s.c.n) wc) := BlkAt.chg HRb.out cg HNe.out.symm
    have HUcc : Hid (Rd wc (.slice ac s.ck.length cc) s.ck) := StP.far HUcb.out HSb.out cg
    have HUhc : Hid (Rd wc (.slice ah s.h.length ch) s.h) := StP.far HUhb.out HSb.out cg
    have HUkc : Hid (Rd wc (.slice ak s.c.key.length ck) s.c.key) := StP.far HUkb.out HSb.out cg
    have HBrc : Hid (Rd wc (.slice a' B.length c') B) := StP.far HBrb.out HSb.out cg
    have HAc : Hid (BlkAt wx.heap.size 34 (acC kd (.slice a' B.length c') M) wc) := BlkAt.chg HAb.out cg HNa.out
    have HBc : Hid (Below w.heap.size w wc) := Chg.gone HBb.out cg HBb.out.size HG.out
    have m1 : wc.cell? ⟨wx.heap.size, 1, none⟩ = some (.slice a' B.length c') := BlkAt.cell HAc.out 1
    obtain ⟨ax, cx, rfl, -⟩ := id hx.rd
    have HX : Hid (Rd wc (.slice ax X.length cx) X) := hx.rd
    clear hx hSc cg HSb HRb HUcb HUhb HUkb HBrb HAb HBb
    go_wp2_with (first | refine wpList_load_part rfl 31 _ rfl rfl [] (saC (.slice ac s.ck.length cc) (.slice ah s.h.length ch) (.slice ak s.c.key.length ck) s.c.n) [] HRc.out (whole16 _) rfl Tryz.underlying31 rfl (info_sa _ _ _ _) ?_)
    refine (sealin16_any s _ _ _ _ B _ rfl HSo.out.n (by rw [HSo.out.h]; decide) (by have := HL5.out; omega) (by have := (seC_facts s.c s.h B HSo.out.n).2.2; have := HL5.out; rw [HSo.out.h]; omega) _ HUcc.out HUhc.out HUkc.out HBrc.out).mono ?_
    rw [← HQ.out]
    rintro e wd ⟨z, y, rfl, hz, hy, bd⟩
    replace hz : Rd wd z s1.h := hz
    replace hy : Rd wd y X := hy
    obtain ⟨az, cz', rfl, -⟩ := id hz
    obtain ⟨ay, cy, rfl, -⟩ := id hy
    have HZ : Hid (Rd wd (.slice az s1.h.length cz') s1.h) := hz
    have HY : Hid (Rd wd (.slice ay X.length cy) X) := hy
    have r8 := BlkAt.kept HRc.out bd
    clear hz hy
    go_wp2_with (first | (refine wpList_store_part rfl 31 _ _ rfl rfl (saC (.slice ac s.ck.length cc) (.slice az s1.h.length cz') (.slice ak s.c.key.length ck) s1.c.n) rfl [] (saC (.slice ac s.ck.length cc) (.slice ah s.h.length ch) (.slice ak s.c.key.length ck) s.c.n) [] (saC (.slice ac s.ck.length cc) (.slice az s1.h.length cz') (.slice ak s.c.key.length ck) s1.c.n) r8 (whole16 _) (whole16 _) rfl rfl (info_sa (.slice ac s.ck.length cc) (.slice ah s.h.length ch) (.slice ak s.c.key.length ck) s.c.n) (saC_all _ _ _ _ _ _ _ _ _ _) ?_; intro wz r9 hw9; have k1 := convS (Rd.past16 (HX.out.kept bd) r8 (saC_no8 _ _ _ _ _ _ _ _ _ _) (Chg.of_wrote hw9)); have k2 := convS (Rd.past16 HY.out r8 (saC_no8 _ _ _ _ _ _ _ _ _ _) (Chg.of_wrote hw9))) | refine wpList_loadG16 31 _ rfl rfl (saC (.slice ac s.ck.length cc) (.slice az s1.h.length cz') (.slice ak s.c.key.length ck) s1.c.n) r9 Tryz.underlying31 rfl (info_sa _ _ _ _) (by go_simp; done) ?_)
    clear k1 k2
    have cz := Chg.of_wrote hw9
    have HS1 : Hid (StP w.heap.size g s1 wz) := (HSc.out.kept bd).blk (BlkAt.kept HRc.out bd) ne_refs HNe.out cz
    have HBz : Hid (Below w.heap.size w wz) := hw9.below _ _ HGr.out (stepB HBc.out bd)
    have HC1 : Hid (Rd wz (.slice ac s.ck.length cc) s1.ck) := (by rw [HE1.out]; exact Rd.past16 (HUcc.out.kept bd) (BlkAt.kept HRc.out bd) (saC_no8 _ _ _ _ _ _ _ _ _ _) cz : Rd wz (.slice ac s.ck.length cc) s1.ck)
    have HH1 : Hid (Rd wz (.slice az s1.h.length cz') s1.h) := Rd.past16 HZ.out (BlkAt.kept HRc.out bd) (saC_no8 _ _ _ _ _ _ _ _ _ _) cz
    have HK1 : Hid (Rd wz (.slice ak s.c.key.length ck) s1.c.key) := (by rw [HE3.out]; exact Rd.past16 (HUkc.out.kept bd) (BlkAt.kept HRc.out bd) (saC_no8 _ _ _ _ _ _ _ _ _ _) cz : Rd wz (.slice ak s.c.key.length ck) s1.c.key)
    have HAe : Hid ((saC (.slice ac s.ck.length cc) (.slice az s1.h.length cz') (.slice ak s.c.key.length ck) s1.c.n) = (saC (.slice ac s.ck.length cc) (.slice az s1.h.length cz') (.slice ak s.c.key.length ck) s1.c.n)) := rfl
    have HR1 : Hid _ := r9
    clear cz hw9 r9
   rotate_left
   focus
    have q0 : (kd.tmod 6 == 0) = false := by rw [← hr, h0]; rfl
    have q1 : (kd.tmod 6 == 1) = false := by rw [← hr, h0]; rfl
    have q2 : (kd.tmod 6 == 2) = false := by rw [← hr, h0]; rfl
    have q3 : (kd.tmod 6 == 3) = false := by rw [← hr, h0]; rfl
    have q4 : (kd.tmod 6 == 4) = true := by rw [← hr, h0]; rfl
    have q5 : (bits .and .u64 (M : Int) 1 == 1) = true := odd16_yes HKd.out.2 h1
    clear hr h0 h1
    have hTl := seS_len s B HSo.out.n
    obtain ⟨Q0, hQ0⟩ : ∃ Q, Q = seS s B := ⟨_, rfl⟩
    rw [← hQ0] at hTl
    obtain ⟨s0, T, E0⟩ := Q0
    have HQ0 : Hid ((s0, T, E0) = seS s B) := hQ0
    have HTl : Hid (T.length ≤ 516) := (by have : T.length ≤ B.length + 16 := hTl; have := HL5.out; omega : T.length ≤ 516)
    clear hQ0 hTl
    go_wp2_with (first | refine wpList_load_mid rfl 34 _ rfl b (off + i * 3) rfl [.int .i64 kd, .slice a' B.length c', .int .u64 (M : Int)] _ hrg Tryz.underlying34 rfl infoAct ?_ | refine wpList_load_part rfl 31 _ rfl rfl [] (saC (.slice ac s.ck.length cc) (.slice ah s.h.length ch) (.slice ak s.c.key.length ck) s.c.n) [] HRb.out (whole16 _) rfl Tryz.underlying31 rfl (info_sa _ _ _ _) ?_)
    refine (sealin16_any s _ _ _ _ B _ rfl HSo.out.n (by rw [HSo.out.h]; decide) (by have := HL5.out; omega) (by have := (seC_facts s.c s.h B HSo.out.n).2.2; have := HL5.out; rw [HSo.out.h]; omega) _ HUcb.out HUhb.out HUkb.out HBrb.out).mono ?_
    rw [← HQ0.out]
    rintro e wt ⟨z0, y0, rfl, hz0, hy0, bt⟩
    replace hz0 : Rd wt z0 s0.h := hz0
    replace hy0 : Rd wt y0 T := hy0
    obtain ⟨az0, cz0, rfl, -⟩ := id hz0
    obtain ⟨at', ct, rfl, -⟩ := id hy0
    have HTt : Hid (Rd wt (.slice at' T.length ct) T) := hy0
    have HSt : Hid (StP w.heap.size g s wt) := HSb.out.kept bt
    have HRt : Hid (BlkAt gr 31 (saC (.slice ac s.ck.length cc) (.slice ah s.h.length ch) (.slice ak s.c.key.length ck) s.c.n) wt) := BlkAt.kept HRb.out bt
    have HUct : Hid (Rd wt (.slice ac s.ck.length cc) s.ck) := HUcb.out.kept bt
    have HUht : Hid (Rd wt (.slice ah s.h.length ch) s.h) := HUhb.out.kept bt
    have HUkt : Hid (Rd wt (.slice ak s.c.key.length ck) s.c.key) := HUkb.out.kept bt
    have HBrt : Hid (Rd wt (.slice a' B.length c') B) := HBrb.out.kept bt
    have HAt : Hid (BlkAt wx.heap.size 34 (acC kd (.slice a' B.length c') M) wt) := BlkAt.kept HAb.out bt
    have HBt : Hid (Below w.heap.size w wt) := stepB HBb.out bt
    clear hz0 hy0 bt HSb HRb HUcb HUhb HUkb HBrb HAb HBb HQ0
    have hkeep := opS_keeps s T HSo.out.n
    have hso := HSo.out.op T
    obtain ⟨Q, hQ⟩ : ∃ Q, Q = opS s T := ⟨_, rfl⟩
    rw [← hQ] at hkeep hso
    obtain ⟨s1, X, E⟩ := Q
    have HQ : Hid ((s1, X, E) = opS s T) := hQ
    have HSo1 : Hid (Sound s1) := hso
    have HE1 : Hid (s1.ck = s.ck) := hkeep.1
    have HE3 : Hid (s1.c.key = s.c.key) := hkeep.2
    clear hkeep hso hQ
    go_wp2_with fail
    refine (sopen_any w.heap.size g s HSo.out.n _ T (by have := HTl.out; omega) (by rw [HSo.out.h]; decide) _ HG.out HSt.out HTt.out w rfl HBt.out HT.out HP.out HK.out).mono ?_
    rw [← HQ.out]
    rintro e wc ⟨x, rfl, hx, hSc, cg⟩
    replace hx : Ow 5 _ x X wc := hx
    have HSc : Hid (StP w.heap.size g s1 wc) := hSc
    have HRc : Hid (BlkAt gr 31 (saC (.slice ac s.ck.length cc) (.slice ah s.h.length ch) (.slice ak s.c.key.length ck) s.c.n) wc) := BlkAt.chg HRt.out cg HNe.out.symm
    have HUcc : Hid (Rd wc (.slice ac s.ck.length cc) s.ck) := StP.far HUct.out HSt.out cg
    have HUhc : Hid (Rd wc (.slice ah s.h.length ch) s.h) := StP.far HUht.out HSt.out cg
    have HUkc : Hid (Rd wc (.slice ak s.c.key.length ck) s.c.key) := StP.far HUkt.out HSt.out cg
    have HBrc : Hid (Rd wc (.slice a' B.length c') B) := StP.far HBrt.out HSt.out cg
    have HAc : Hid (BlkAt wx.heap.size 34 (acC kd (.slice a' B.length c') M) wc) := BlkAt.chg HAt.out cg HNa.out
    have HBc : Hid (Below w.heap.size w wc) := Chg.gone HBt.out cg HBt.out.size HG.out
    have m1 : wc.cell? ⟨wx.heap.size, 1, none⟩ = some (.slice a' B.length c') := BlkAt.cell HAc.out 1
    have HTc : Hid (Rd wc (.slice at' T.length ct) T) := StP.far HTt.out HSt.out cg
    obtain ⟨ax, cx, rfl, -⟩ := id hx.rd
    have HX : Hid (Rd wc (.slice ax X.length cx) X) := hx.rd
    clear hx hSc cg HSt HRt HUct HUht HUkt HBrt HAt HBt
    go_wp2_with (first | refine wpList_load_part rfl 31 _ rfl rfl [] (saC (.slice ac s.ck.length cc) (.slice ah s.h.length ch) (.slice ak s.c.key.length ck) s.c.n) [] HRc.out (whole16 _) rfl Tryz.underlying31 rfl (info_sa _ _ _ _) ?_)
    refine (openin16_any s _ _ _ _ T _ rfl HSo.out.n (by rw [HSo.out.h]; decide) (by have := HTl.out; omega) (by have := HTl.out; rw [HSo.out.h]; omega) _ HUcc.out HUhc.out HUkc.out HTc.out).mono ?_
    rw [← HQ.out]
    rintro e wd ⟨z, y, rfl, hz, hy, bd⟩
    replace hz : Rd wd z s1.h := hz
    replace hy : Rd wd y X := hy
    obtain ⟨az, cz', rfl, -⟩ := id hz
    obtain ⟨ay, cy, rfl, -⟩ := id hy
    have HZ : Hid (Rd wd (.slice az s1.h.length cz') s1.h) := hz
    have HY : Hid (Rd wd (.slice ay X.length cy) X) := hy
    have r8 := BlkAt.kept HRc.out bd
    clear hz hy
    go_wp2_with (first | (refine wpList_store_part rfl 31 _ _ rfl rfl (saC (.slice ac s.ck.length cc) (.slice az s1.h.length cz') (.slice ak s.c.key.length ck) s1.c.n) rfl [] (saC (.slice ac s.ck.length cc) (.slice ah s.h.length ch) (.slice ak s.c.key.length ck) s.c.n) [] (saC (.slice ac s.ck.length cc) (.slice az s1.h.length cz') (.slice ak s.c.key.length ck) s1.c.n) r8 (whole16 _) (whole16 _) rfl rfl (info_sa (.slice ac s.ck.length cc) (.slice ah s.h.length ch) (.slice ak s.c.key.length ck) s.c.n) (saC_all _ _ _ _ _ _ _ _ _ _) ?_; intro wz r9 hw9; have k1 := convS (Rd.past16 (HX.out.kept bd) r8 (saC_no8 _ _ _ _ _ _ _ _ _ _) (Chg.of_wrote hw9)); have k2 := convS (Rd.past16 HY.out r8 (saC_no8 _ _ _ _ _ _ _ _ _ _) (Chg.of_wrote hw9))) | refine wpList_loadG16 31 _ rfl rfl (saC (.slice ac s.ck.length cc) (.slice az s1.h.length cz') (.slice ak s.c.key.length ck) s1.c.n) r9 Tryz.underlying31 rfl (info_sa _ _ _ _) (by go_simp; done) ?_)
    clear k1 k2
    have cz := Chg.of_wrote hw9
    have HS1 : Hid (StP w.heap.size g s1 wz) := (HSc.out.kept bd).blk (BlkAt.kept HRc.out bd) ne_refs HNe.out cz
    have HBz : Hid (Below w.heap.size w wz) := hw9.below _ _ HGr.out (stepB HBc.out bd)
    have HC1 : Hid (Rd wz (.slice ac s.ck.length cc) s1.ck) := (by rw [HE1.out]; exact Rd.past16 (HUcc.out.kept bd) (BlkAt.kept HRc.out bd) (saC_no8 _ _ _ _ _ _ _ _ _ _) cz : Rd wz (.slice ac s.ck.length cc) s1.ck)
    have HH1 : Hid (Rd wz (.slice az s1.h.length cz') s1.h) := Rd.past16 HZ.out (BlkAt.kept HRc.out bd) (saC_no8 _ _ _ _ _ _ _ _ _ _) cz
    have HK1 : Hid (Rd wz (.slice ak s.c.key.length ck) s1.c.key) := (by rw [HE3.out]; exact Rd.past16 (HUkc.out.kept bd) (BlkAt.kept HRc.out bd) (saC_no8 _ _ _ _ _ _ _ _ _ _) cz : Rd wz (.slice ak s.c.key.length ck) s1.c.key)
    have HAe : Hid ((saC (.slice ac s.ck.length cc) (.slice az s1.h.length cz') (.slice ak s.c.key.length ck) s1.c.n) = (saC (.slice ac s.ck.length cc) (.slice az s1.h.length cz') (.slice ak s.c.key.length ck) s1.c.n)) := rfl
    have HR1 : Hid _ := r9
    clear cz hw9 r9
   rotate_left
   focus
    have q0 : (kd.tmod 6 == 0) = false := by rw [← hr, h0]; rfl
    have q1 : (kd.tmod 6 == 1) = false := by rw [← hr, h0]; rfl
    have q2 : (kd.tmod 6 == 2) = false := by rw [← hr, h0]; rfl
    have q3 : (kd.tmod 6 == 3) = false := by rw [← hr, h0]; rfl
    have q4 : (kd.tmod 6 == 4) = true := by rw [← hr, h0]; rfl
    have q5 : (bits .and .u64 (M : Int) 1 == 1) = false := odd16_no HKd.out.2 h1
    clear hr h0 h1
    have hkeep := opS_keeps s B HSo.out.n
    have hso := HSo.out.op B
    obtain ⟨Q, hQ⟩ : ∃ Q, Q = opS s B := ⟨_, rfl⟩
    rw [← hQ] at hkeep hso
    obtain ⟨s1, X, E⟩ := Q
    have HQ : Hid ((s1, X, E) = opS s B) := hQ
    have HSo1 : Hid (Sound s1) := hso
    have HE1 : Hid (s1.ck = s.ck) := hkeep.1
    have HE3 : Hid (s1.c.key = s.c.key) := hkeep.2
    clear hkeep hso hQ
    go_wp2_with (first | refine wpList_load_mid rfl 34 _ rfl b (off + i * 3) rfl [.int .i64 kd, .slice a' B.length c', .int .u64 (M : Int)] _ hrg Tryz.underlying34 rfl infoAct ?_)
    refine (sopen_any w.heap.size g s HSo.out.n _ B (by have := HL5.out; omega) (by rw [HSo.out.h]; decide) _ HG.out HSb.out HBrb.out w rfl HBb.out HT.out HP.out HK.out).mono ?_
    rw [← HQ.out]
    rintro e wc ⟨x, rfl, hx, hSc, cg⟩
    replace hx : Ow 5 _ x X wc := hx
    have HSc : Hid (StP w.heap.size g s1 wc) := hSc
    have HRc : Hid (BlkAt gr 31 (saC (.slice ac s.ck.length cc) (.slice ah s.h.length ch) (.slice ak s.c.key.length ck) s.c.n) wc) := BlkAt.chg HRb.out cg HNe.out.symm
    have HUcc : Hid (Rd wc (.slice ac s.ck.length cc) s.ck) := StP.far HUcb.out HSb.out cg
    have HUhc : Hid (Rd wc (.slice ah s.h.length ch) s.h) := StP.far HUhb.out HSb.out cg
    have HUkc : Hid (Rd wc (.slice ak s.c.key.length ck) s.c.key) := StP.far HUkb.out HSb.out cg
    have HBrc : Hid (Rd wc (.slice a' B.length c') B) := StP.far HBrb.out HSb.out cg
    have HAc : Hid (BlkAt wx.heap.size 34 (acC kd (.slice a' B.length c') M) wc) := BlkAt.chg HAb.out cg HNa.out
    have HBc : Hid (Below w.heap.size w wc) := Chg.gone HBb.out cg HBb.out.size HG.out
    have m1 : wc.cell? ⟨wx.heap.size, 1, none⟩ = some (.slice a' B.length c') := BlkAt.cell HAc.out 1
    obtain ⟨ax, cx, rfl, -⟩ := id hx.rd
    have HX : Hid (Rd wc (.slice ax X.length cx) X) := hx.rd
    clear hx hSc cg HSb HRb HUcb HUhb HUkb HBrb HAb HBb
    go_wp2_with (first | refine wpList_load_part rfl 31 _ rfl rfl [] (saC (.slice ac s.ck.length cc) (.slice ah s.h.length ch) (.slice ak s.c.key.length ck) s.c.n) [] HRc.out (whole16 _) rfl Tryz.underlying31 rfl (info_sa _ _ _ _) ?_)
    refine (openin16_any s _ _ _ _ B _ rfl HSo.out.n (by rw [HSo.out.h]; decide) (by have := HL5.out; omega) (by have := HL5.out; rw [HSo.out.h]; omega) _ HUcc.out HUhc.out HUkc.out HBrc.out).mono ?_
    rw [← HQ.out]
    rintro e wd ⟨z, y, rfl, hz, hy, bd⟩
    replace hz : Rd wd z s1.h := hz
    replace hy : Rd wd y X := hy
    obtain ⟨az, cz', rfl, -⟩ := id hz
    obtain ⟨ay, cy, rfl, -⟩ := id hy
    have HZ : Hid (Rd wd (.slice az s1.h.length cz') s1.h) := hz
    have HY : Hid (Rd wd (.slice ay X.length cy) X) := hy
    have r8 := BlkAt.kept HRc.out bd
    clear hz hy
    go_wp2_with (first | (refine wpList_store_part rfl 31 _ _ rfl rfl (saC (.slice ac s.ck.length cc) (.slice az s1.h.length cz') (.slice ak s.c.key.length ck) s1.c.n) rfl [] (saC (.slice ac s.ck.length cc) (.slice ah s.h.length ch) (.slice ak s.c.key.length ck) s.c.n) [] (saC (.slice ac s.ck.length cc) (.slice az s1.h.length cz') (.slice ak s.c.key.length ck) s1.c.n) r8 (whole16 _) (whole16 _) rfl rfl (info_sa (.slice ac s.ck.length cc) (.slice ah s.h.length ch) (.slice ak s.c.key.length ck) s.c.n) (saC_all _ _ _ _ _ _ _ _ _ _) ?_; intro wz r9 hw9; have k1 := convS (Rd.past16 (HX.out.kept bd) r8 (saC_no8 _ _ _ _ _ _ _ _ _ _) (Chg.of_wrote hw9)); have k2 := convS (Rd.past16 HY.out r8 (saC_no8 _ _ _ _ _ _ _ _ _ _) (Chg.of_wrote hw9))) | refine wpList_loadG16 31 _ rfl rfl (saC (.slice ac s.ck.length cc) (.slice az s1.h.length cz') (.slice ak s.c.key.length ck) s1.c.n) r9 Tryz.underlying31 rfl (info_sa _ _ _ _) (by go_simp; done) ?_)
    clear k1 k2
    have cz := Chg.of_wrote hw9
    have HS1 : Hid (StP w.heap.size g s1 wz) := (HSc.out.kept bd).blk (BlkAt.kept HRc.out bd) ne_refs HNe.out cz
    have HBz : Hid (Below w.heap.size w wz) := hw9.below _ _ HGr.out (stepB HBc.out bd)
    have HC1 : Hid (Rd wz (.slice ac s.ck.length cc) s1.ck) := (by rw [HE1.out]; exact Rd.past16 (HUcc.out.kept bd) (BlkAt.kept HRc.out bd) (saC_no8 _ _ _ _ _ _ _ _ _ _) cz : Rd wz (.slice ac s.ck.length cc) s1.ck)
    have HH1 : Hid (Rd wz (.slice az s1.h.length cz') s1.h) := Rd.past16 HZ.out (BlkAt.kept HRc.out bd) (saC_no8 _ _ _ _ _ _ _ _ _ _) cz
    have HK1 : Hid (Rd wz (.slice ak s.c.key.length ck) s1.c.key) := (by rw [HE3.out]; exact Rd.past16 (HUkc.out.kept bd) (BlkAt.kept HRc.out bd) (saC_no8 _ _ _ _ _ _ _ _ _ _) cz : Rd wz (.slice ak s.c.key.length ck) s1.c.key)
    have HAe : Hid ((saC (.slice ac s.ck.length cc) (.slice az s1.h.length cz') (.slice ak s.c.key.length ck) s1.c.n) = (saC (.slice ac s.ck.length cc) (.slice az s1.h.length cz') (.slice ak s.c.key.length ck) s1.c.n)) := rfl
    have HR1 : Hid _ := r9
    clear cz hw9 r9
   rotate_left
   focus
    have q0 : (kd.tmod 6 == 0) = false := by rw [← hr]; simpa using h0
    have q1 : (kd.tmod 6 == 1) = false := by rw [← hr]; simpa using h1
    have q2 : (kd.tmod 6 == 2) = false := by rw [← hr]; simpa using h2
    have q3 : (kd.tmod 6 == 3) = false := by rw [← hr]; simpa using h3
    have q4 : (kd.tmod 6 == 4) = false := by rw [← hr]; simpa using h4
    clear hr h0 h1 h2 h3 h4
    obtain ⟨v3, n1, n2, hS5⟩ := HSb.out.num M
    have c5 : Chg (fun b => b = g) (wx.alloc (.cells #[.int .i64 kd, .slice a' B.length c', .int .u64 (M : Int)] 34)) ((wx.alloc (.cells #[.int .i64 kd, .slice a' B.length c', .int .u64 (M : Int)] 34)).setCell ⟨g, 3, none⟩ (.int .u64 (M : Int))) := Chg.of_wrote (Wrote.set _ _ _ _)
    have HR5 : Hid (BlkAt gr 31 (saC (.slice ac s.ck.length cc) (.slice ah s.h.length ch) (.slice ak s.c.key.length ck) s.c.n) ((wx.alloc (.cells #[.int .i64 kd, .slice a' B.length c', .int .u64 (M : Int)] 34)).setCell ⟨g, 3, none⟩ (.int .u64 (M : Int)))) := BlkAt.chg HRb.out c5 HNe.out.symm
    have n3 : ((wx.alloc (.cells #[.int .i64 kd, .slice a' B.length c', .int .u64 (M : Int)] 34)).setCell ⟨g, 3, none⟩ (.int .u64 (M : Int))).cell? ⟨gr, 3, none⟩ = some (.int .u64 (s.c.n : Int)) := BlkAt.cell HR5.out 3
    have n4 : ((wx.alloc (.cells #[.int .i64 kd, .slice a' B.length c', .int .u64 (M : Int)] 34)).setCell ⟨g, 3, none⟩ (.int .u64 (M : Int))).frozen? ⟨gr, 3, none⟩ = false := BlkAt.free HR5.out 3
    have n5 : ((wx.alloc (.cells #[.int .i64 kd, .slice a' B.length c', .int .u64 (M : Int)] 34)).setCell ⟨g, 3, none⟩ (.int .u64 (M : Int))).cell? ⟨wx.heap.size, 2, none⟩ = some (.int .u64 (M : Int)) := BlkAt.cell (BlkAt.chg HAb.out c5 HNa.out) 2
    have c6 : Chg (fun b => b = gr) ((wx.alloc (.cells #[.int .i64 kd, .slice a' B.length c', .int .u64 (M : Int)] 34)).setCell ⟨g, 3, none⟩ (.int .u64 (M : Int))) (((wx.alloc (.cells #[.int .i64 kd, .slice a' B.length c', .int .u64 (M : Int)] 34)).setCell ⟨g, 3, none⟩ (.int .u64 (M : Int))).setCell ⟨gr, 3, none⟩ (.int .u64 (M : Int))) := Chg.of_wrote (Wrote.set _ _ _ _)
    have HR1 : Hid (BlkAt gr 31 (saC (.slice ac s.ck.length cc) (.slice ah s.h.length ch) (.slice ak s.c.key.length ck) M) (((wx.alloc (.cells #[.int .i64 kd, .slice a' B.length c', .int .u64 (M : Int)] 34)).setCell ⟨g, 3, none⟩ (.int .u64 (M : Int))).setCell ⟨gr, 3, none⟩ (.int .u64 (M : Int)))) := BlkAt.set HR5.out 3 _
    obtain ⟨s1, hs1⟩ : ∃ s1 : Sta, s1 = ⟨s.ck, s.h, ⟨s.c.key, M⟩⟩ := ⟨_, rfl⟩
    rw [← hs1] at hS5
    have HS1 : Hid (StP w.heap.size g s1 (((wx.alloc (.cells #[.int .i64 kd, .slice a' B.length c', .int .u64 (M : Int)] 34)).setCell ⟨g, 3, none⟩ (.int .u64 (M : Int))).setCell ⟨gr, 3, none⟩ (.int .u64 (M : Int)))) := hS5.blk HR5.out ne_refs HNe.out c6
    have HBz : Hid (Below w.heap.size w (((wx.alloc (.cells #[.int .i64 kd, .slice a' B.length c', .int .u64 (M : Int)] 34)).setCell ⟨g, 3, none⟩ (.int .u64 (M : Int))).setCell ⟨gr, 3, none⟩ (.int .u64 (M : Int)))) := Chg.gone (Chg.gone HBb.out c5 HBb.out.size HG.out) c6 (by have := HBb.out.size; have := c5.size; omega) HGr.out
    have far := fun {v : Value} {l : List UInt8} (h : Rd (wx.alloc (.cells #[.int .i64 kd, .slice a' B.length c', .int .u64 (M : Int)] 34)) v l) => (StP.far h HSb.out c5).past16 HR5.out (saC_no8 _ _ _ _ _ _ _ _ _ _) c6
    have HC1 : Hid (Rd (((wx.alloc (.cells #[.int .i64 kd, .slice a' B.length c', .int .u64 (M : Int)] 34)).setCell ⟨g, 3, none⟩ (.int .u64 (M : Int))).setCell ⟨gr, 3, none⟩ (.int .u64 (M : Int))) (.slice ac s.ck.length cc) s1.ck) := (by rw [hs1]; exact far HUcb.out : Rd (((wx.alloc (.cells #[.int .i64 kd, .slice a' B.length c', .int .u64 (M : Int)] 34)).setCell ⟨g, 3, none⟩ (.int .u64 (M : Int))).setCell ⟨gr, 3, none⟩ (.int .u64 (M : Int))) (.slice ac s.ck.length cc) s1.ck)
    have HH1 : Hid (Rd (((wx.alloc (.cells #[.int .i64 kd, .slice a' B.length c', .int .u64 (M : Int)] 34)).setCell ⟨g, 3, none⟩ (.int .u64 (M : Int))).setCell ⟨gr, 3, none⟩ (.int .u64 (M : Int))) (.slice ah s.h.length ch) s1.h) := (by rw [hs1]; exact far HUhb.out : Rd (((wx.alloc (.cells #[.int .i64 kd, .slice a' B.length c', .int .u64 (M : Int)] 34)).setCell ⟨g, 3, none⟩ (.int .u64 (M : Int))).setCell ⟨gr, 3, none⟩ (.int .u64 (M : Int))) (.slice ah s.h.length ch) s1.h)
    have HK1 : Hid (Rd (((wx.alloc (.cells #[.int .i64 kd, .slice a' B.length c', .int .u64 (M : Int)] 34)).setCell ⟨g, 3, none⟩ (.int .u64 (M : Int))).setCell ⟨gr, 3, none⟩ (.int .u64 (M : Int))) (.slice ak s.c.key.length ck) s1.c.key) := (by rw [hs1]; exact far HUkb.out : Rd (((wx.alloc (.cells #[.int .i64 kd, .slice a' B.length c', .int .u64 (M : Int)] 34)).setCell ⟨g, 3, none⟩ (.int .u64 (M : Int))).setCell ⟨gr, 3, none⟩ (.int .u64 (M : Int))) (.slice ak s.c.key.length ck) s1.c.key)
    have HAe : Hid ((saC (.slice ac s.ck.length cc) (.slice ah s.h.length ch) (.slice ak s.c.key.length ck) M) = (saC (.slice ac s.ck.length cc) (.slice ah s.h.length ch) (.slice ak s.c.key.length ck) s1.c.n)) := (by rw [hs1] : (saC (.slice ac s.ck.length cc) (.slice ah s.h.length ch) (.slice ak s.c.key.length ck) M) = (saC (.slice ac s.ck.length cc) (.slice ah s.h.length ch) (.slice ak s.c.key.length ck) s1.c.n))
    have HSo1 : Hid (Sound s1) := (by rw [hs1]; exact HSo.out.put M HKd.out.2 : Sound s1)
    have k1 := fun W => convS (Rd.nil W)
    clear far hs1 hS5 HSb HRb HUcb HUhb HUkb HBrb HAb HBb c5 c6
    go_wp2_with (first | refine wpList_load_mid rfl 34 _ rfl b (off + i * 3) rfl [.int .i64 kd, .slice a' B.length c', .int .u64 (M : Int)] _ hrg Tryz.underlying34 rfl infoAct ?_ | refine wpList_loadG16 31 _ rfl rfl (saC (.slice ac s.ck.length cc) (.slice ah s.h.length ch) (.slice ak s.c.key.length ck) M) HR1.out Tryz.underlying31 rfl (info_sa _ _ _ _) (by go_simp; done) ?_)
   rotate_left
   all_goals
    refine (like_any w.heap.size g s1 _ _ _ _ (congrArg List.toArray HAe.out) _ HS1.out HC1.out HH1.out HK1.out).mono ?_
    rintro e wl ⟨rfl, bl⟩
    have HBl : Hid (Below w.heap.size w wl) := stepB HBz.out bl
    have HS2 : Hid (StP w.heap.size g s1 wl) := HS1.out.kept bl
    have HR2 : Hid _ := BlkAt.kept HR1.out bl
    have HC2 : Hid (Rd wl _ s1.ck) := HC1.out.kept bl
    have HH2 : Hid (Rd wl _ s1.h) := HH1.out.kept bl
    have HK2 : Hid (Rd wl _ s1.c.key) := HK1.out.kept bl
    have HR3 : Hid (BlkAt gr 31 _ wl) := (by have := HR2.out; rw [HAe.out] at this; exact this)
    clear bl
    go_wp2
    go_roundw
    case rel => exact ⟨i + 1, s1, _, _, _, by omega, by go_num, HSo1.out, HS2.out, HR3.out, HC2.out, HH2.out, HK2.out, HBl.out⟩
    case measure => simp [intOf]; omega
  ·have hcases : ¬ i < ks.length ∨ (i < ks.length ∧ ¬ i < 10) := by omega
   clear hin
   rcases hcases with hc1 | ⟨hc1, hc2⟩
   all_goals
    try have d4 : decide ((i : Int) < 10) = false := decide_eq_false (by omega)
    go_wp2_with fail
    refine (ssplit_any w.heap.size g s _ HS.out (HT.out.kept HB.out)).mono ?_
    rintro e w9 ⟨vp, vq, rfl, hp, hq, b9⟩
    obtain ⟨K1, hK1⟩ : ∃ K, K = (spS s).1.key := ⟨_, rfl⟩
    obtain ⟨K2, hK2⟩ : ∃ K, K = (spS s).2.key := ⟨_, rfl⟩
    rw [← hK1] at hp
    rw [← hK2] at hq
    have HK1 : Hid (K1 = (spS s).1.key) := hK1
    have HK2 : Hid (K2 = (spS s).2.key) := hK2
    obtain ⟨ap, cp, rfl, -⟩ := id hp.rd
    obtain ⟨aq, cq, rfl, -⟩ := id hq.rd
    have HP1 : Hid (Rd w9 (.slice ap K1.length cp) K1) := hp.rd
    have HQ1 : Hid (Rd w9 (.slice aq K2.length cq) K2) := hq.rd
    replace HB : Hid (Below w.heap.size w w9) := stepB HB.out b9
    replace HS : Hid (StP w.heap.size g s w9) := HS.out.kept b9
    replace HR : Hid (BlkAt gr 31 (saC (.slice ac s.ck.length cc) (.slice ah s.h.length ch) (.slice ak s.c.key.length ck) s.c.n) w9) := BlkAt.kept HR.out b9
    replace HUc : Hid (Rd w9 (.slice ac s.ck.length cc) s.ck) := HUc.out.kept b9
    replace HUh : Hid (Rd w9 (.slice ah s.h.length ch) s.h) := HUh.out.kept b9
    replace HUk : Hid (Rd w9 (.slice ak s.c.key.length ck) s.c.key) := HUk.out.kept b9
    clear hp hq b9 hK1 hK2
    go_wp2_with (refine wpList_alloc_blk rfl 42 rfl (ckD (.slice none 0 0) 0) (alloc_kc _) ?_)
    intro wa rp ba sa
    go_wp2_with (refine wpList_alloc_blk rfl 42 rfl (ckD (.slice none 0 0) 0) (alloc_kc _) ?_)
    intro wb rq bb sb
    replace rp := rp.kept bb
    have na : w9.heap.size < wa.heap.size := by have := sa.out; omega
    have bab := stepB ba bb
    clear sa sb
    go_wp2_with (first | (refine wpList_store_part rfl 42 _ _ rfl rfl (ckD (.slice ap K1.length cp) 0) rfl [] (ckD (.slice none 0 0) 0) [] (ckD (.slice ap K1.length cp) 0) rp (wholeS _) (wholeS _) rfl rfl (info_kc (.slice none 0 0) 0) (ckD_all _ _ _ _) ?_; intro wc rc hwc; have rq6 := rq.wrote hwc (by omega)) | (refine wpList_store_part rfl 42 _ _ rfl rfl (ckD (.slice aq K2.length cq) 0) rfl [] (ckD (.slice none 0 0) 0) [] (ckD (.slice aq K2.length cq) 0) rq6 (wholeS _) (wholeS _) rfl rfl (info_kc (.slice none 0 0) 0) (ckD_all _ _ _ _) ?_; intro wd rd hwd; have bwd : Below w9.heap.size w9 wd := hwd.below _ _ (by omega) (hwc.below _ _ (Nat.le_refl _) bab); have rl := BlkAt.kept HR.out bwd) | refine wpList_load_part rfl 31 _ rfl rfl [] (saC (.slice ac s.ck.length cc) (.slice ah s.h.length ch) (.slice ak s.c.key.length ck) s.c.n) [] rl (whole16 _) rfl Tryz.underlying31 rfl (info_sa _ _ _ _) ?_)
    have rcd := rc.wrote hwd (by omega)
    have HB2 : Hid (Below w.heap.size w wd) := stepB HB.out bwd
    replace HS : Hid (StP w.heap.size g s wd) := HS.out.kept bwd
    replace HR : Hid (BlkAt gr 31 (saC (.slice ac s.ck.length cc) (.slice ah s.h.length ch) (.slice ak s.c.key.length ck) s.c.n) wd) := rl
    replace HUc : Hid (Rd wd (.slice ac s.ck.length cc) s.ck) := HUc.out.kept bwd
    replace HUh : Hid (Rd wd (.slice ah s.h.length ch) s.h) := HUh.out.kept bwd
    replace HUk : Hid (Rd wd (.slice ak s.c.key.length ck) s.c.key) := HUk.out.kept bwd
    replace HP1 : Hid (Rd wd (.slice ap K1.length cp) K1) := HP1.out.kept bwd
    replace HQ1 : Hid (Rd wd (.slice aq K2.length cq) K2) := HQ1.out.kept bwd
    have HR1 : Hid (BlkAt w9.heap.size 42 (ckD (.slice ap K1.length cp) 0) wd) := rcd
    have HR2 : Hid (BlkAt wa.heap.size 42 (ckD (.slice aq K2.length cq) 0) wd) := rd
    clear rp rq bab ba bb na rc hwc rq6 rd hwd rcd bwd HB rl
    refine (split16_any s _ _ _ _ rfl (by rw [HSo.out.ck]; decide) _ HUc.out HUh.out HUk.out).mono ?_
    rw [← HK1.out, ← HK2.out]
    rintro e x9 ⟨vr, vs', rfl, hr, hs, b9⟩
    obtain ⟨ar, cr, rfl, -⟩ := id hr
    obtain ⟨as', cs, rfl, -⟩ := id hs
    have HP3 : Hid (Rd x9 (.slice ar K1.length cr) K1) := hr
    have HQ3 : Hid (Rd x9 (.slice as' K2.length cs) K2) := hs
    replace HB2 : Hid (Below w.heap.size w x9) := stepB HB2.out b9
    replace HS : Hid (StP w.heap.size g s x9) := HS.out.kept b9
    replace HR : Hid (BlkAt gr 31 (saC (.slice ac s.ck.length cc) (.slice ah s.h.length ch) (.slice ak s.c.key.length ck) s.c.n) x9) := BlkAt.kept HR.out b9
    replace HUc : Hid (Rd x9 (.slice ac s.ck.length cc) s.ck) := HUc.out.kept b9
    replace HUh : Hid (Rd x9 (.slice ah s.h.length ch) s.h) := HUh.out.kept b9
    replace HUk : Hid (Rd x9 (.slice ak s.c.key.length ck) s.c.key) := HUk.out.kept b9
    replace HP1 : Hid (Rd x9 (.slice ap K1.length cp) K1) := HP1.out.kept b9
    replace HQ1 : Hid (Rd x9 (.slice aq K2.length cq) K2) := HQ1.out.kept b9
    replace HR1 : Hid (BlkAt w9.heap.size 42 (ckD (.slice ap K1.length cp) 0) x9) := BlkAt.kept HR1.out b9
    replace HR2 : Hid (BlkAt wa.heap.size 42 (ckD (.slice aq K2.length cq) 0) x9) := BlkAt.kept HR2.out b9
    clear hr hs b9 HK1 HK2
    go_wp2_with (refine wpList_alloc_blk rfl 29 rfl (ciC (.slice none 0 0) 0) (alloc_ci _) ?_)
    intro xa rp ba sa
    go_wp2_with (refine wpList_alloc_blk rfl 29 rfl (ciC (.slice none 0 0) 0) (alloc_ci _) ?_)
    intro xb rq bb sb
    replace rp := rp.kept bb
    have na : x9.heap.size < xa.heap.size := by have := sa.out; omega
    have bab := stepB ba bb
    clear sa sb
    go_wp2_with (first | (refine wpList_store_part rfl 29 _ _ rfl rfl (ciC (.slice ar K1.length cr) 0) rfl [] (ciC (.slice none 0 0) 0) [] (ciC (.slice ar K1.length cr) 0) rp (whole16 _) (whole16 _) rfl rfl (info_ci (.slice none 0 0) 0) (ciC_all _ _ _ _) ?_; intro xc rc hwc; have rq6 := rq.wrote hwc (by omega)) | (refine wpList_store_part rfl 29 _ _ rfl rfl (ciC (.slice as' K2.length cs) 0) rfl [] (ciC (.slice none 0 0) 0) [] (ciC (.slice as' K2.length cs) 0) rq6 (whole16 _) (whole16 _) rfl rfl (info_ci (.slice none 0 0) 0) (ciC_all _ _ _ _) ?_; intro xd rd hwd; have rcd := rc.wrote hwd (by omega); have bxd : Below x9.heap.size x9 xd := hwd.below _ _ (by omega) (hwc.below _ _ (Nat.le_refl _) bab); have m1 : xd.cell? ⟨w9.heap.size, 0, none⟩ = some (.slice ap K1.length cp) := BlkAt.cell (BlkAt.kept HR1.out bxd) 0; have m2 : xd.cell? ⟨wa.heap.size, 0, none⟩ = some (.slice aq K2.length cq) := BlkAt.cell (BlkAt.kept HR2.out bxd) 0; have m3 : xd.cell? ⟨x9.heap.size, 0, none⟩ = some (.slice ar K1.length cr) := rcd.cell 0; have m4 : xd.cell? ⟨xa.heap.size, 0, none⟩ = some (.slice as' K2.length cs) := rd.cell 0; have m5 : xd.cell? ⟨w9.heap.size, 1, none⟩ = some (.int .u64 0) := BlkAt.cell (BlkAt.kept HR1.out bxd) 1; have m6 : xd.cell? ⟨wa.heap.size, 1, none⟩ = some (.int .u64 0) := BlkAt.cell (BlkAt.kept HR2.out bxd) 1; have n1 := convS (HP1.out.kept bxd); have n2 := convS (HQ1.out.kept bxd); have n3 := convS (HP3.out.kept bxd); have n4 := convS (HQ3.out.kept bxd); have rl := BlkAt.kept HR.out bxd; have HBx : Hid (Below x9.heap.size x9 xd) := bxd; clear rcd rd hwd hwc rc rq6 bxd rp rq ba bb bab na) | refine wpList_loadG16 31 _ rfl rfl (saC (.slice ac s.ck.length cc) (.slice ah s.h.length ch) (.slice ak s.c.key.length ck) s.c.n) rl Tryz.underlying31 rfl (info_sa _ _ _ _) (by go_simp; done) ?_)
    refine (like_any w.heap.size g s _ _ _ _ rfl _ (HS.out.kept HBx.out) (HUc.out.kept HBx.out) (HUh.out.kept HBx.out) (HUk.out.kept HBx.out)).mono ?_
    rintro e xl ⟨rfl, bl⟩
    have HBl : Hid (Below w.heap.size w xl) := stepB (stepB HB2.out HBx.out) bl
    clear bl
    go_wp2_with fail
    go_ret
    exact ⟨rfl, HBl.out⟩
end Go.Proofs.YtdlmmcilembjgaaGreatDoor
