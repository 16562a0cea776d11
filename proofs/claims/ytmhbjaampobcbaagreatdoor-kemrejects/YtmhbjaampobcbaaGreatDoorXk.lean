/- What functions of the program, or of the reference, answer: contracts; several texts in one. -/
import Derived.Test.YtmhbjaampobcbaaGreatDoorSp
import Derived.Test.YtmhbjaampobcbaaGreatDoorBase
import Derived.Test.YtmhbjaampobcbaaGreatDoorWords
import Derived.Test.YtmhbjaampobcbaaGreatDoorJm
import Derived.Test.YtmhbjaampobcbaaGreatDoorX13g
import Derived.Test.YtmhbjaampobcbaaGreatDoorX13h
import Derived.Test.YtmhbjaampobcbaaGreatDoorX13i
import Derived.Test.YtmhbjaampobcbaaGreatDoorRfc
import Derived.Test.YtmhbjaampobcbaaGreatDoorEvk

namespace Go.Proofs.YtmhbjaampobcbaaGreatDoor
open Go.ChangeShapes Go.WideShapes Go.ChangeAt Go.RowKit
set_option linter.unusedSimpArgs false
set_option linter.unusedVariables false

theorem Rd.part {w : World} {b o n cap : Nat} {l : List UInt8} (h : Rd w (.slice (some ⟨b, o, none⟩) n cap) l) (i k : Nat) (hi : i ≤ k) (hk : k ≤ n) : Rd w (.slice (some ⟨b, o + i, none⟩) (k - i) (k - i)) ((l.drop i).take (k - i)) := by
 obtain ⟨a', cap', e, h2, h3, h4, h5⟩ := h.sub i k hi hk
 simp only [Value.slice.injEq] at e
 obtain ⟨rfl, e2, rfl⟩ := e
 exact ⟨_, _, by rw [← e2], by omega, by omega, (fun h => by cases h), h5⟩
theorem wpList_valK {P : Program} {ops : Array Oper} {rest : List Oper} {op : Oper} {a : Act} {w : World} {Q : Exit → Act → World → Prop} {v : Value} (hy : (execOp a.eval op).run P w = .ok (.value v) w) (hw : Region.wanted op (yielded ops a.tmps) = true)
  (h : wpList P ops Q rest (a.put op.dst v) w) : wpList P ops Q (op :: rest) a w := by
 refine wpList_step fun K hK => ?_
 rw [if_pos hw]
 unfold Oper.wp
 rw [hy]
 exact hK _ _ h

set_option maxRecDepth 100000 in
set_option maxHeartbeats 2000000 in
theorem kpart_any (b o n cap i k d : Nat) (I K : Int) (hI : I = (i : Int)) (hK : K = (k : Int)) (hd : d = k - i) (w : World) (hik : i < k) (hk : k ≤ n) (hn : n ≤ cap) (hc : cap ≤ maxLen) :
  Calls Tryz.prog 26 #[.slice (some ⟨b, o, none⟩) n cap, .int .i64 I, .int .i64 K] w fun e w' => e = .returned (.slice (some ⟨b, o + i, none⟩) d d) ∧ w' = w := by
 subst hI hK
 unfold maxLen at hc
 have h1 : (i : Int) ≤ (k : Int) := by omega
 have h2 : (k : Int) ≤ (cap : Int) := by omega
 have h3 : ¬ k = i := by omega
 have h4 : ¬ k - i = 0 := by omega
 have HD : Hid _ := hd
 clear hd
 go_enter Tryz.func26, Tryz.ntmps26
 go_wp2
 go_ret
 exact ⟨by rw [HD.out]; rfl, rfl⟩
def pvC (b o : Nat) : List Value := [.slice (some ⟨b, o, none⟩) 1152 1152, .slice (some ⟨b, o + 1152, none⟩) 1184 1184, .slice (some ⟨b, o + 2336, none⟩) 32 32, .slice (some ⟨b, o + 2368, none⟩) 32 32]
theorem alloc_pv (w : World) : (Instr.alloc 45 true (.tuple #[])).run Tryz.prog w = .ok (.pointer (some ⟨w.heap.size, 0, none⟩)) (w.alloc (.cells [.slice none 0 0, .slice none 0 0, .slice none 0 0, .slice none 0 0].toArray 45)) := by kernel_rfl
theorem build_pv (v1 v2 v3 v4 : Option Addr) (w : World) : (Instr.build 45 #[(0, .slice v1 1152 1152), (1, .slice v2 1184 1184), (2, .slice v3 32 32), (3, .slice v4 32 32)]).run Tryz.prog w = .ok (.agg [.slice v1 1152 1152, .slice v2 1184 1184, .slice v3 32 32, .slice v4 32 32].toArray) w := by kernel_rfl
theorem info_pv : (Tryz.prog.info? 45).map (·.size) = some 4 := by kernel_rfl
theorem pvC_all (b o : Nat) : (pvC b o).toArray.all (·.oneCell') = true := by kernel_rfl
theorem whole14 (cs : List Value) : cs = [] ++ cs ++ [] := by simp

set_option maxRecDepth 100000 in
set_option maxHeartbeats 2000000 in
theorem kparts_any (b o cap : Nat) (hn : 2400 ≤ cap) (hc : cap ≤ maxLen) (w : World) :
  Calls Tryz.prog 27 #[.slice (some ⟨b, o, none⟩) 2400 cap] w fun e w' => e = .returned (.agg (pvC b o).toArray) ∧ Below w.heap.size w w' := by
 go_enter Tryz.func27, Tryz.ntmps27
 go_wp2_with (refine wpList_alloc_blk rfl 45 rfl _ (alloc_pv _) ?_)
 intro w1 r1 b1 s1
 clear s1
 go_wp2_with fail
 refine (kpart_any b o 2400 cap 0 1152 1152 _ _ rfl rfl rfl _ (by decide) (by decide) hn hc).mono ?_
 rintro e w2 ⟨rfl, rfl⟩
 go_wp2_with fail
 refine (kpart_any b o 2400 cap 1152 2336 1184 _ _ rfl rfl rfl _ (by decide) (by decide) hn hc).mono ?_
 rintro e w2 ⟨rfl, rfl⟩
 go_wp2_with fail
 refine (kpart_any b o 2400 cap 2336 2368 32 _ _ rfl rfl rfl _ (by decide) (by decide) hn hc).mono ?_
 rintro e w2 ⟨rfl, rfl⟩
 go_wp2_with fail
 refine (kpart_any b o 2400 cap 2368 2400 32 _ _ rfl rfl rfl _ (by decide) (by decide) hn hc).mono ?_
 rintro e w2 ⟨rfl, rfl⟩
 go_wp2_with (first
  | refine wpList_buildB rfl 45 #[(0, .tmp 4), (1, .tmp 6), (2, .tmp 8), (3, .tmp 10)] rfl _ (by go_simp; rfl) _ (build_pv _ _ _ _ _) ?_
  | (refine wpList_store_part rfl 45 _ _ rfl rfl (pvC b o) rfl [] _ [] (pvC b o) r1 (whole14 _) (whole14 _) rfl rfl info_pv (pvC_all _ _) ?_; intro w7 r7 hw7))
 refine bodyPost_blk rfl rfl rfl r7 Tryz.underlying45 rfl info_pv ?_
 exact ⟨rfl, hw7.below _ _ (Nat.le_refl _) b1⟩

set_option maxRecDepth 100000 in
set_option maxHeartbeats 2000000 in
theorem kbit_any (q : Bool) (w : World) :
  Calls Tryz.prog 37 #[.bool q] w fun e w' => e = .returned (.int .i64 (if q then 1 else 0)) ∧ w' = w := by
 cases q
 all_goals
  go_enter Tryz.func37, Tryz.ntmps37
  go_wp2
  go_ret
  exact ⟨rfl, rfl⟩
theorem RdL.four {w : World} {e : TypeId} {v1 v2 v3 v4 : Value} {l1 l2 l3 l4 : List UInt8} {b : Nat} (hb : b = w.heap.size) (h1 : Rd w v1 l1) (h2 : Rd w v2 l2) (h3 : Rd w v3 l3) (h4 : Rd w v4 l4) :
  RdL (w.alloc (.cells #[v1, v2, v3, v4] e)) (.slice (some ⟨b, 0, none⟩) 4 4) [v1, v2, v3, v4] [l1, l2, l3, l4] := by
 subst hb
 refine RdL.lit [v1, v2, v3, v4] [l1, l2, l3, l4] rfl rfl rfl (by unfold maxLen; simp) rfl fun i hi => ?_
 match i, hi with
 | 0, _ => exact h1
 | 1, _ => exact h2
 | 2, _ => exact h3
 | 3, _ => exact h4
theorem tot_four (a b c d : List UInt8) (ha : a.length ≤ 3000) (hb : b.length ≤ 3000) (hc : c.length ≤ 3000) (hd : d.length ≤ 3000) : totL [a, b, c, d] ≤ 1000000000 := by
 simp [totL]
 omega
theorem OwnG.sub14 {w0 w : World} {L L' : List Rw} (h : OwnG w0 L w) (hs : L'.Sublist L) : OwnG w0 L' w := ⟨fun p hp => h.rows p (hs.subset hp), h.apart.sublist hs, h.below⟩

set_option maxRecDepth 100000 in
set_option maxHeartbeats 2000000 in
theorem mgen_arg (vd vz : Value) (d z : List UInt8) (w : World) (hd : Rd w vd d) (hz : Rd w vz z) (h : ¬ (d.length = 32 ∧ z.length = 32)) :
  Calls Tryz.prog 9 #[vd, vz] w fun e w' => e = .returned (.tuple #[.slice none 0 0, .slice none 0 0, .int .i64 1]) ∧ w' = w := by
 obtain ⟨ak, ck, rfl, -, -, -, -⟩ := id hd
 obtain ⟨ac, cc, rfl, -, -, -, -⟩ := id hz
 have hcase : ((d.length : Int) != 32) = true ∨ (((d.length : Int) != 32) = false ∧ ((z.length : Int) != 32) = true) := by
  by_cases h1 : d.length = 32
  ·exact .inr ⟨by simp; omega, by simp; omega⟩
  ·exact .inl (by simp; omega)
 clear hd hz h
 rcases hcase with h1 | ⟨h1, h2⟩
 all_goals
  go_enter Tryz.func9, Tryz.ntmps9
  go_wp2
  go_ret3
  exact ⟨rfl, rfl⟩

set_option maxRecDepth 100000 in
set_option maxHeartbeats 4000000 in
theorem mgen_any (vd vz : Value) (d z : List UInt8) (w : World) (hd : Rd w vd d) (hz : Rd w vz z) (hd32 : d.length = 32) (hz32 : z.length = 32) (hT : Tabs w) (hP : PwT w) :
  Calls Tryz.prog 9 #[vd, vz] w fun e w' => ∃ x y, e = .returned (.tuple #[x, y, .int .i64 0]) ∧ OwnG w [Rw.by 5 x (ekL d), Rw.by 5 y (kdL d z)] w' := by
 obtain ⟨ak, ck, rfl, -, -, -, -⟩ := id hd
 obtain ⟨ac, cc, rfl, -, -, -, -⟩ := id hz
 have h1 : ((d.length : Int) != 32) = false := by simp; omega
 have h2 : ((z.length : Int) != 32) = false := by simp; omega
 have HD : Hid (Rd w (.slice ak d.length ck) d) := hd
 have HZ : Hid (Rd w (.slice ac z.length cc) z) := hz
 have HD32 : Hid _ := hd32
 have HZ32 : Hid _ := hz32
 have HT : Hid (Tabs w) := hT
 have HP : Hid (PwT w) := hP
 have HF : Hid ([dkL d, ekL d, hsS (ekL d), z].flatten = kdL d z) := by show _ = _; unfold kdL; simp
 have L1 : Hid ((ekL d).length = 1184) := ekL_length d
 have L2 : Hid ((dkL d).length = 1152) := dkL_length d
 clear hd hz hd32 hz32 hT hP
 go_enter Tryz.func9, Tryz.ntmps9
 go_wp2_with fail
 refine (kgen_any _ d _ HD.out HD32.out HT.out HP.out).mono ?_
 rintro e w1 ⟨x, y, rfl, hO⟩
 obtain ⟨E, hE⟩ : ∃ E : List UInt8, E = ekL d := ⟨_, rfl⟩
 rw [← hE] at hO HF L1
 have HEe : Hid _ := hE
 clear hE
 generalize dkL d = K at hO HF L2
 obtain ⟨ax, cx, rfl, -⟩ := id hO.rd0
 obtain ⟨ay, cy, rfl, -⟩ := id hO.tail.rd0
 go_wp2_with fail
 refine (sum256_any _ E _ hO.rd0 (HT.out.kept hO.below)).mono ?_
 rintro e w2 ⟨v2, rfl, hN2⟩
 have L3 : Hid ((hsS E).length = 32) := hsS_length E
 have hN2' : New 5 w1 v2 (hsS E) w2 := hN2
 have hO2 := hO.new hN2'
 generalize hsS E = S at hO2 HF L3
 obtain ⟨a2, c2, rfl, -⟩ := id hO2.rd0
 have hL := RdL.four (e := 22) (b := w2.heap.size) rfl hO2.tail.tail.rd0 hO2.tail.rd0 hO2.rd0 (HZ.out.kept hO2.below)
 have g1 := growB (w := w2) (.cells #[.slice ay K.length cy, .slice ax E.length cx, .slice a2 S.length c2, .slice ac z.length cc] 22)
 have HO3 : Hid _ := hO2.kept g1
 clear hO hN2 hN2' hO2 g1
 go_wp2_with fail
 refine (join_any _ _ _ _ hL (tot_four _ _ _ _ (by rw [L2.out]; decide) (by rw [L1.out]; decide) (by rw [L3.out]; decide) (by rw [HZ32.out]; decide))).mono ?_
 rintro e w4 ⟨v4, rfl, hN4⟩
 rw [HF.out] at hN4
 have hO4 := HO3.out.new hN4
 have HO : Hid (OwnG w [Rw.by 5 (.slice ax E.length cx) (ekL d), Rw.by 5 v4 (kdL d z)] w4) := by rw [← HEe.out]; exact (hO4.sub14 (.cons_cons _ (.cons _ (.cons_cons _ (List.nil_sublist _))))).swap
 clear hO4 hN4 HO3 hL
 go_wp2
 go_ret3
 exact ⟨_, v4, rfl, HO.out⟩

set_option maxRecDepth 100000 in
set_option maxHeartbeats 4000000 in
theorem mreduced_any (v : Value) (b : List UInt8) (q : Bool) (hq : rdQ b = q) (hl : b.length = 384) (w : World) (hr : Rd w v b) :
  Calls Tryz.prog 25 #[v] w fun e w' => e = .returned (.bool q) ∧ Below w.heap.size w w' := by
 obtain ⟨av, cv, rfl, -⟩ := id hr
 have HR : Hid (Rd w (.slice av b.length cv) b) := hr
 have HL : Hid (b.length = 32 * 12) := hl
 have HQ : Hid (decide (pkL 12 (fzF (upF 12 b)) = b) = q) := hq
 clear hr hl hq
 go_enter Tryz.func25, Tryz.ntmps25
 go_wp2_with fail
 refine (sunpack_any 12 _ rfl (by decide) (by decide) _ b _ HR.out HL.out).mono ?_
 rintro e w2 ⟨rfl, b2⟩
 generalize upF 12 b = f at HQ
 have hbw := b2
 have z2 := b2.size
 clear b2
 go_wp2_with (refine wpList_alloc_blk rfl 58 rfl (poC fun _ => 0) (allocP13 _) ?_)
 intro w3 rp b3 s3
 replace hbw := stepB hbw b3
 clear b3 s3
 go_wp2_with (refine wpList_store_part rfl 58 _ _ rfl rfl (poC f) rfl [] (poC fun _ => 0) [] (poC f) rp (whole13 _) (whole13 _) rfl (by rw [poC_length, poC_length]) (infoP13 _) (poC_all _) ?_)
 intro w4 r4 hw4
 replace hbw := hw4.below _ _ z2 hbw
 clear rp hw4
 go_wp2_with (refine wpList_valK (exec_load_part 58 (.tmp 3) rfl rfl [] (poC f) [] r4 (Below.refl _ _) (whole13 _) rfl Tryz.underlying58 rfl (infoP13 _)) (by go_simp; done) ?_)
 refine (spackQ 12 _ rfl (by decide) (by decide) f _).mono ?_
 rintro e w5 ⟨v5, rfl, hN5⟩
 replace hbw := stepB hbw hN5.2
 have hr5 := hN5.rd
 clear hN5 r4
 go_wp2_with fail
 refine (equal_bool _ _ _ b q HQ.out _ hr5 (Rd.kept HR.out hbw)).mono ?_
 rintro e w6 ⟨rfl, b6⟩
 replace hbw := stepB hbw b6
 clear b6 hr5
 go_wp2
 go_ret
 exact ⟨rfl, hbw⟩

theorem third_at (i : Nat) (hi : i < 3) : ∃ p j q : Nat, Hid (p = 384 * i) ∧ Hid (j = i + 1) ∧ Hid (q = 384 * i + 384) ∧ IntKind.i64.wrap ((i : Int) * 384) = (p : Int) ∧ IntKind.i64.wrap ((i : Int) + 1) = (j : Int) ∧ IntKind.i64.wrap ((j : Int) * 384) = (q : Int) := by
 refine ⟨384 * i, i + 1, 384 * i + 384, rfl, rfl, rfl, ?_, ?_, ?_⟩
 ·rw [show (i : Int) * 384 = ((384 * i : Nat) : Int) by omega]; exact IntWalk.i64_in _ (by omega)
 ·rw [show (i : Int) + 1 = ((i + 1 : Nat) : Int) by omega]; exact IntWalk.i64_in _ (by omega)
 ·rw [show ((i + 1 : Nat) : Int) * 384 = ((384 * i + 384 : Nat) : Int) by omega]; exact IntWalk.i64_in _ (by omega)
theorem third_rd {w : World} {b o ck : Nat} {ek : List UInt8} (h : Rd w (.slice (some ⟨b, o, none⟩) 1184 ck) ek) (i p : Nat) (hi : i < 3) (hp : p = 384 * i) : Rd w (.slice (some ⟨b, o + p, none⟩) 384 384) (tdL ek i) := by
 subst hp
 have h2 := h.part (384 * i) (384 * i + 384) (by omega) (by omega)
 rw [show 384 * i + 384 - 384 * i = 384 by omega] at h2
 exact h2

set_option maxRecDepth 100000 in
set_option maxHeartbeats 4000000 in
theorem mcheck_any (v : Value) (ek : List UInt8) (w : World) (hr : Rd w v ek) :
  Calls Tryz.prog 11 #[v] w fun e w' => e = .returned (.int .i64 (ckE ek)) ∧ Below w.heap.size w w' := by
 obtain ⟨a0, ck, ev, hck, hmk, -, h5⟩ := id hr
 subst ev
 by_cases hl : ek.length = 1184
 ·have h1 : ((ek.length : Int) != 1184) = false := by simp; omega
  rcases h5 with h5 | ⟨b, o, rfl, -⟩
  ·rw [h5] at hl
   simp at hl
  have HY : Hid (∀ h : (∀ i, i < 3 → rdQ (tdL ek i) = true), ckE ek = 0) := ckE_thirds ek hl
  have HN : Hid (∀ i, i < 3 → rdQ (tdL ek i) = false → ckE ek = 12) := ckE_third ek hl
  have HLn : Hid (∀ i, i < 3 → (tdL ek i).length = 384) := tdL_length ek hl
  rw [hl] at hr hck h1 ⊢
  have HR : Hid (Rd w (.slice (some ⟨b, o, none⟩) 1184 ck) ek) := hr
  have HCk : Hid _ := hck
  have HMk : Hid _ := hmk
  generalize ckE ek = R at HY HN ⊢
  clear hr hl hck hmk
  go_enter Tryz.func11, Tryz.ntmps11
  go_wp2
  go_loopw [7] (fun iv wx => ∃ i : Nat, i ≤ 3 ∧ iv = .int .i64 (i : Int) ∧ Hid (∀ k, k < i → rdQ (tdL ek k) = true) ∧ Below w.heap.size w wx) (fun iv _ => 3 - (intOf iv).toNat)
  case atStart => exact ⟨0, by omega, rfl, (fun k hk => by omega), Below.refl _ _⟩
  case round =>
   obtain ⟨i, hi, rfl, HI, hbw⟩ := hrel
   by_cases hlt : i < 3
   ·have hd : decide ((i : Int) < 3) = true := decide_eq_true (by omega)
    have hiI : (i : Int) < 3 := by omega
    obtain ⟨p, j, q, HP, HJ, HQ, x1, x2, x3⟩ := third_at i hlt
    obtain ⟨rq, hrq⟩ : ∃ rq, rdQ (tdL ek i) = rq := ⟨_, rfl⟩
    have HRq : Hid _ := hrq
    clear hrq
    go_wp2_with fail
    refine (kpart_any b o 1184 ck p q 384 _ _ rfl rfl (by have := HP.out; have := HQ.out; omega) _ (by have := HP.out; have := HQ.out; omega) (by have := HQ.out; omega) HCk.out HMk.out).mono ?_
    rintro e wy ⟨rfl, rfl⟩
    go_wp2_with fail
    refine (mreduced_any _ _ rq HRq.out (HLn.out i hlt) _ (third_rd (Rd.kept HR.out hbw) i p hlt HP.out)).mono ?_
    rintro e w2 ⟨rfl, b2⟩
    have HB2 : Hid _ := stepB hbw b2
    clear hbw b2
    cases rq
    ·have HE : Hid (R = 12) := HN.out i hlt HRq.out
     go_wp2
     go_ret
     exact ⟨by rw [HE.out]; rfl, HB2.out⟩
    ·have HI2 : Hid (∀ k, k < j → rdQ (tdL ek k) = true) := fun k hk => by
      have hj := HJ.out
      by_cases e : k = i
      ·rw [e]; exact HRq.out
      ·exact HI.out k (by omega)
     go_wp2
     go_roundw
     case rel => exact ⟨j, by have := HJ.out; omega, rfl, HI2, HB2.out⟩
     case measure => have := HJ.out; simp [intOf] <;> omega
   ·have hie : i = 3 := by omega
    have hd : decide ((i : Int) < 3) = false := decide_eq_false (by omega)
    have hiI : (3 : Int) ≤ (i : Int) := by omega
    have HE : Hid (R = 0) := HY.out (by rw [← hie]; exact HI.out)
    have HB : Hid _ := hbw
    clear hbw hie
    go_wp2
    go_ret
    exact ⟨by rw [HE.out]; rfl, HB.out⟩
 ·have h1 : ((ek.length : Int) != 1184) = true := by simp; omega
  have HE : Hid (ckE ek = 1) := ckE_len ek hl
  rw [HE.out]
  clear hr h5
  go_enter Tryz.func11, Tryz.ntmps11
  go_wp2
  go_ret
  exact ⟨rfl, Below.refl _ _⟩
theorem pv_at {g b o : Nat} {ty : TypeId} {w : World} (h : BlkAt g ty (pvC b o) w) : w.cell? ⟨g, 0, none⟩ = some (.slice (some ⟨b, o, none⟩) 1152 1152) ∧ w.cell? ⟨g, 1, none⟩ = some (.slice (some ⟨b, o + 1152, none⟩) 1184 1184) ∧
  w.cell? ⟨g, 2, none⟩ = some (.slice (some ⟨b, o + 2336, none⟩) 32 32) ∧ w.cell? ⟨g, 3, none⟩ = some (.slice (some ⟨b, o + 2368, none⟩) 32 32) := ⟨h.cell 0, h.cell 1, h.cell 2, h.cell 3⟩

set_option maxRecDepth 100000 in
set_option maxHeartbeats 4000000 in
theorem mcv_any (v : Value) (dk : List UInt8) (w : World) (hr : Rd w v dk) (hT : Tabs w) :
  Calls Tryz.prog 12 #[v] w fun e w' => e = .returned (.int .i64 (cvE dk)) ∧ Below w.heap.size w w' := by
 obtain ⟨a0, ck, ev, hck, hmk, -, h5⟩ := id hr
 subst ev
 by_cases hl : dk.length = 2400
 ·have h1 : ((dk.length : Int) != 2400) = false := by simp; omega
  rcases h5 with h5 | ⟨b, o, rfl, -⟩
  ·rw [h5] at hl
   simp at hl
  have HE : Hid (cvE dk = if hsS ((dk.drop 1152).take 1184) = (dk.drop 2336).take 32 then 0 else 12) := by
   show _ = _
   unfold cvE
   rw [if_pos hl]
  rw [hl] at hr hck h1 ⊢
  have HS1 : Hid (Rd w (.slice (some ⟨b, o + 1152, none⟩) 1184 1184) ((dk.drop 1152).take 1184)) := hr.part 1152 2336 (by omega) (by omega)
  have HS2 : Hid (Rd w (.slice (some ⟨b, o + 2336, none⟩) 32 32) ((dk.drop 2336).take 32)) := hr.part 2336 2368 (by omega) (by omega)
  generalize (dk.drop 1152).take 1184 = A at HS1 HE
  generalize (dk.drop 2336).take 32 = B at HS2 HE
  generalize cvE dk = R at HE ⊢
  obtain ⟨q, hq⟩ : ∃ q : Bool, decide (B = hsS A) = q := ⟨_, rfl⟩
  have HQ : Hid _ := hq
  have HT : Hid (Tabs w) := hT
  have HCk : Hid _ := hck
  have HMk : Hid _ := hmk
  clear hr hl hck hmk hq hT
  go_enter Tryz.func12, Tryz.ntmps12
  go_wp2_with fail
  refine (kparts_any b o ck HCk.out HMk.out _).mono ?_
  rintro e w1 ⟨rfl, b1⟩
  have z1 := b1.size
  go_wp2_with (refine wpList_alloc_blk rfl 45 rfl _ (alloc_pv _) ?_)
  intro w2 r2 b2 s2
  have hbw := stepB b1 b2
  clear b1 b2 s2
  go_wp2_with (refine wpList_store_part rfl 45 _ _ rfl rfl (pvC b o) rfl [] _ [] (pvC b o) r2 (whole14 _) (whole14 _) rfl rfl info_pv (pvC_all _ _) ?_)
  intro w3 r3 hw3
  replace hbw := hw3.below _ _ z1 hbw
  clear r2 hw3
  have hbd := hbw.drew
  go_wp2_with fail
  refine wpG_begin (by kernel_rfl) ?_
  refine wpG_t (i := 0) (oi := ⟨some 9, .fieldAddr 45 (.tmp 3) 2, 0, "kem.go:84", #[], none⟩) (v := ?_) ?_ ?_
  rotate_left
  ·intro W hW; go_simp <;> with_reducible rfl
  try simp only [Act.put, putA, putB, putC]
  refine wpG_t (i := 1) (oi := ⟨some 10, .load 22 (.tmp 9), 22, "kem.go:84", #[⟨0, .data⟩], none⟩) (v := ?_) ?_ ?_
  rotate_left
  ·intro W hW; have hcW := (pv_at (r3.drew.kept hW)).2.2.1; go_simp <;> with_reducible rfl
  try simp only [Act.put, putA, putB, putC]
  refine wpG_t (i := 2) (oi := ⟨some 11, .fieldAddr 45 (.tmp 3) 1, 0, "kem.go:84", #[], none⟩) (v := ?_) ?_ ?_
  rotate_left
  ·intro W hW; go_simp <;> with_reducible rfl
  try simp only [Act.put, putA, putB, putC]
  refine wpG_t (i := 3) (oi := ⟨some 12, .load 22 (.tmp 11), 22, "kem.go:84", #[⟨2, .data⟩], none⟩) (v := ?_) ?_ ?_
  rotate_left
  ·intro W hW; have hcW := (pv_at (r3.drew.kept hW)).2.1; go_simp <;> with_reducible rfl
  try simp only [Act.put, putA, putB, putC]
  refine wpG_do (i := 4) (o := ⟨some 13, .call { callee := .value (.func 21), args := #[.tmp 12], argTypes := #[22] }, 22, "kem.go:84", #[⟨3, .data⟩], none⟩) (by kernel_rfl) rfl (by rfl) fun K hK => ?_
  go_simp
  refine (sum256_any _ A _ (Rd.kept HS1.out hbd) (HT.out.kept hbd)).mono ?_
  rintro e w4 ⟨v4, rfl, hN4⟩
  have hr4 : Rd w4 v4 (hsS A) := hN4.rd
  refine hK.out _ _ hN4.2 ?_
  clear hK K
  try simp only [Act.put, putA, putB, putC]
  refine wpG_do (i := 5) (o := ⟨some 14, .call { callee := .value (.func 28), args := #[.tmp 10, .tmp 13], argTypes := #[22, 22] }, 4, "kem.go:84", #[⟨1, .data⟩, ⟨4, .data⟩, ⟨4, .chain⟩], none⟩) (by kernel_rfl) rfl (by rfl) fun K hK => ?_
  go_simp
  refine (equal_bool _ _ B (hsS A) q HQ.out _ (Rd.kept HS2.out (stepB hbd hN4.2)) hr4).mono ?_
  rintro e w5 ⟨rfl, b5⟩
  refine hK.out _ _ b5 ?_
  clear hK K
  try simp only [Act.put, putA, putB, putC]
  refine wpG_t (i := 6) (oi := ⟨some 15, .unOp .not 4 (.tmp 14), 4, "kem.go:84", #[⟨5, .data⟩], none⟩) (v := ?_) ?_ ?_
  rotate_left
  ·intro W hW; go_simp <;> with_reducible rfl
  try simp only [Act.put, putA, putB, putC]
  refine wpG_done (by kernel_rfl) ?_
  have HB5 : Hid _ := stepB (stepB hbd hN4.2) b5
  clear hN4 hr4 b5 hbw hbd r3
  cases q
  ·have HEq : Hid (R = 12) := by
    show _ = _
    rw [HE.out, if_neg]
    intro h
    exact absurd (decide_eq_true h.symm) (by rw [HQ.out]; decide)
   go_wp2
   go_ret
   exact ⟨by rw [HEq.out]; rfl, HB5.out⟩
  ·have HEq : Hid (R = 0) := by
    show _ = _
    rw [HE.out, if_pos (of_decide_eq_true HQ.out).symm]
   go_wp2
   go_ret
   exact ⟨by rw [HEq.out]; rfl, HB5.out⟩
 ·have h1 : ((dk.length : Int) != 2400) = true := by simp; omega
  have HE : Hid (cvE dk = 1) := by
   show _ = _
   unfold cvE
   rw [if_neg hl]
  rw [HE.out]
  clear hr h5 hT
  go_enter Tryz.func12, Tryz.ntmps12
  go_wp2
  go_ret
  exact ⟨rfl, Below.refl _ _⟩

set_option maxRecDepth 100000 in
set_option maxHeartbeats 4000000 in
theorem msealed_any (ve vs vm : Value) (ek s m G : List UInt8) (w : World) (he : Rd w ve ek) (hs : Rd w vs s) (hm : Rd w vm m) (hel : ek.length = 1184) (hsl : s.length = 32) (hml : m.length = 32) (hG : hsD (m ++ s) = G) (hT : Tabs w) (hP : PwT w) :
  Calls Tryz.prog 30 #[ve, vs, vm] w fun e w' => ∃ x y, e = .returned (.tuple #[x, y]) ∧ Rd w' x (G.take 32) ∧ New 5 w y (ciL ek m (G.drop 32)) w' := by
 obtain ⟨ae, ce, rfl, -, -, -, -⟩ := id he
 obtain ⟨asv, cs, rfl, -, -, -, -⟩ := id hs
 obtain ⟨am, cm, rfl, -, -, -, -⟩ := id hm
 have HE : Hid (Rd w (.slice ae ek.length ce) ek) := he
 have HM : Hid (Rd w (.slice am m.length cm) m) := hm
 have HEl : Hid _ := hel
 have HMl : Hid _ := hml
 have HSl : Hid _ := hsl
 have HT : Hid (Tabs w) := hT
 have HP : Hid (PwT w) := hP
 have HGl : Hid (G.length = 64) := by rw [← hG]; exact hsD_length _
 have HG : Hid _ := hG
 have hL := RdL.pair12 (e := 22) (b := w.heap.size) rfl hm hs
 have g1 := growB (w := w) (.cells #[.slice am m.length cm, .slice asv s.length cs] 22)
 clear he hs hm hel hml hsl hG hT hP
 go_enter Tryz.func30, Tryz.ntmps30
 go_wp2_with fail
 refine (join_any _ _ _ _ hL (tot_two _ _ (by rw [HMl.out]; decide) (by rw [HSl.out]; decide))).mono ?_
 rintro e w3 ⟨v3, rfl, hN3⟩
 have hr3 := hN3.two13.rd
 have hb3 := stepB g1 hN3.2
 clear hN3 hL g1
 go_wp2_with fail
 refine (sum512_any _ (m ++ s) _ hr3 (HT.out.kept hb3)).mono ?_
 rintro e w4 ⟨v4, rfl, hN4⟩
 have hb4 := stepB hb3 hN4.2
 have hr4 : Rd w4 v4 G := by rw [← HG.out]; exact hN4.rd
 clear hr3 hb3 hN4
 obtain ⟨bg, og, cg, rfl, hcg, hmg, -, -⟩ := gen_slice hr4 HGl.out
 have HCg : Hid _ := hcg
 have HMg : Hid _ := hmg
 have HR0 : Hid (Rd w4 (.slice (some ⟨bg, og, none⟩) 32 32) (G.take 32)) := hr4.part 0 32 (by decide) (by decide)
 have HR1 : Hid (Rd w4 (.slice (some ⟨bg, og + 32, none⟩) 32 32) (G.drop 32)) := by
  have h := hr4.part 32 64 (by decide) (by decide)
  rw [List.take_of_length_le (by rw [List.length_drop, HGl.out]; decide)] at h
  exact h
 have HDl : Hid ((G.drop 32).length = 32) := by show _ = _; rw [List.length_drop, HGl.out]
 clear hr4 hcg hmg
 go_wp2_with fail
 refine (kpart_any bg og 64 cg 0 32 32 _ _ rfl rfl rfl _ (by decide) (by decide) HCg.out HMg.out).mono ?_
 rintro e wy ⟨rfl, rfl⟩
 go_wp2_with fail
 refine (kpart_any bg og 64 cg 32 64 32 _ _ rfl rfl rfl _ (by decide) (by decide) HCg.out HMg.out).mono ?_
 rintro e wz ⟨rfl, rfl⟩
 go_wp2_with fail
 refine (kenc_any _ _ _ ek m (G.drop 32) _ (Rd.kept HE.out hb4) (Rd.kept HM.out hb4) HR1.out HEl.out HMl.out HDl.out (HT.out.kept hb4) (HP.out.kept hb4)).mono ?_
 rintro e w5 ⟨x, rfl, hN5⟩
 have HN : Hid (New 5 w x (ciL ek m (G.drop 32)) w5) := hN5.from hb4
 have HR5 : Hid (Rd w5 (.slice (some ⟨bg, og, none⟩) 32 32) (G.take 32)) := Rd.kept HR0.out hN5.2
 clear hN5 hb4
 go_wp2
 go_ret2
 exact ⟨_, x, rfl, HR5.out, HN.out⟩

set_option maxRecDepth 100000 in
set_option maxHeartbeats 2000000 in
theorem mencaps_arg (ve vm : Value) (ek m : List UInt8) (w : World) (he : Rd w ve ek) (hm : Rd w vm m) (h : ¬ (ek.length = 1184 ∧ m.length = 32)) :
  Calls Tryz.prog 15 #[ve, vm] w fun e w' => e = .returned (.tuple #[.slice none 0 0, .slice none 0 0, .int .i64 1]) ∧ w' = w := by
 obtain ⟨ak, ck, rfl, -, -, -, -⟩ := id he
 obtain ⟨ac, cc, rfl, -, -, -, -⟩ := id hm
 have hcase : ((ek.length : Int) != 1184) = true ∨ (((ek.length : Int) != 1184) = false ∧ ((m.length : Int) != 32) = true) := by
  by_cases h1 : ek.length = 1184
  ·exact .inr ⟨by simp; omega, by simp; omega⟩
  ·exact .inl (by simp; omega)
 clear he hm h
 rcases hcase with h1 | ⟨h1, h2⟩
 all_goals
  go_enter Tryz.func15, Tryz.ntmps15
  go_wp2
  go_ret3
  exact ⟨rfl, rfl⟩

set_option maxRecDepth 100000 in
set_option maxHeartbeats 4000000 in
theorem mencaps_key (ve vm : Value) (ek m : List UInt8) (w : World) (he : Rd w ve ek) (hm : Rd w vm m) (hel : ek.length = 1184) (hml : m.length = 32) (hk : ckE ek = 12) :
  Calls Tryz.prog 15 #[ve, vm] w fun e w' => e = .returned (.tuple #[.slice none 0 0, .slice none 0 0, .int .i64 12]) ∧ Below w.heap.size w w' := by
 obtain ⟨ak, ck, rfl, -, -, -, -⟩ := id he
 obtain ⟨ac, cc, rfl, -, -, -, -⟩ := id hm
 have h1 : ((ek.length : Int) != 1184) = false := by simp; omega
 have h2 : ((m.length : Int) != 32) = false := by simp; omega
 have HE : Hid (Rd w (.slice ak ek.length ck) ek) := he
 have HK : Hid _ := hk
 clear he hm hel hml hk
 go_enter Tryz.func15, Tryz.ntmps15
 go_wp2_with fail
 refine (mcheck_any _ ek _ HE.out).mono ?_
 rintro e w1 ⟨rfl, b1⟩
 rw [HK.out]
 go_wp2
 go_ret3
 exact ⟨rfl, b1⟩

set_option maxRecDepth 100000 in
set_option maxHeartbeats 4000000 in
theorem mencaps_any (ve vm : Value) (ek m : List UInt8) (w : World) (he : Rd w ve ek) (hm : Rd w vm m) (hel : ek.length = 1184) (hml : m.length = 32) (hk : ckE ek = 0) (hT : Tabs w) (hP : PwT w) :
  Calls Tryz.prog 15 #[ve, vm] w fun e w' => ∃ x y, e = .returned (.tuple #[x, y, .int .i64 0]) ∧ Rd w' x ((seG ek m).take 32) ∧ New 5 w y (ciL ek m ((seG ek m).drop 32)) w' := by
 obtain ⟨ak, ck, rfl, -, -, -, -⟩ := id he
 obtain ⟨ac, cc, rfl, -, -, -, -⟩ := id hm
 have h1 : ((ek.length : Int) != 1184) = false := by simp; omega
 have h2 : ((m.length : Int) != 32) = false := by simp; omega
 have HE : Hid (Rd w (.slice ak ek.length ck) ek) := he
 have HM : Hid (Rd w (.slice ac m.length cc) m) := hm
 have HK : Hid _ := hk
 have HEl : Hid _ := hel
 have HMl : Hid _ := hml
 have HT : Hid (Tabs w) := hT
 have HP : Hid (PwT w) := hP
 have HSl : Hid ((hsS ek).length = 32) := hsS_length ek
 have HG : Hid (hsD (m ++ hsS ek) = seG ek m) := by show _ = _; rfl
 generalize seG ek m = G at HG ⊢
 clear he hm hel hml hk hT hP
 go_enter Tryz.func15, Tryz.ntmps15
 go_wp2_with fail
 refine (mcheck_any _ ek _ HE.out).mono ?_
 rintro e w1 ⟨rfl, b1⟩
 rw [HK.out]
 go_wp2_with fail
 refine (sum256_any _ ek _ (Rd.kept HE.out b1) (HT.out.kept b1)).mono ?_
 rintro e w2 ⟨v2, rfl, hN2⟩
 have hb2 := stepB b1 hN2.2
 have hr2 : Rd w2 v2 (hsS ek) := hN2.rd
 obtain ⟨a2, c2, rfl, -⟩ := id hr2
 clear b1 hN2
 go_wp2_with fail
 refine (msealed_any _ _ _ ek (hsS ek) m G _ (Rd.kept HE.out hb2) hr2 (Rd.kept HM.out hb2) HEl.out HSl.out HMl.out HG.out (HT.out.kept hb2) (HP.out.kept hb2)).mono ?_
 rintro e w3 ⟨x, y, rfl, hx, hN⟩
 have HN : Hid (New 5 w y (ciL ek m (G.drop 32)) w3) := hN.from hb2
 have HX : Hid _ := hx
 clear hN hx hb2 hr2
 go_wp2
 go_ret3
 exact ⟨x, y, rfl, HX.out, HN.out⟩
set_option maxRecDepth 100000 in
set_option maxHeartbeats 2000000 in
theorem mdecaps_arg (vd vc : Value) (dk c : List UInt8) (w : World) (hd : Rd w vd dk) (hc : Rd w vc c) (h : ¬ (dk.length = 2400 ∧ c.length = 1088)) :
  Calls Tryz.prog 17 #[vd, vc] w fun e w' => e = .returned (.tuple #[.slice none 0 0, .int .i64 1]) ∧ w' = w := by
 obtain ⟨ak, ck, rfl, -, -, -, -⟩ := id hd
 obtain ⟨ac, cc, rfl, -, -, -, -⟩ := id hc
 have hcase : ((dk.length : Int) != 2400) = true ∨ (((dk.length : Int) != 2400) = false ∧ ((c.length : Int) != 1088) = true) := by
  by_cases h1 : dk.length = 2400
  ·exact .inr ⟨by simp; omega, by simp; omega⟩
  ·exact .inl (by simp; omega)
 clear hd hc h
 rcases hcase with h1 | ⟨h1, h2⟩
 all_goals
  go_enter Tryz.func17, Tryz.ntmps17
  go_wp2
  go_ret2
  exact ⟨rfl, rfl⟩

set_option maxRecDepth 100000 in
set_option maxHeartbeats 4000000 in
theorem mdecaps_key (vd vc : Value) (dk c : List UInt8) (w : World) (hd : Rd w vd dk) (hc : Rd w vc c) (hdl : dk.length = 2400) (hcl : c.length = 1088) (hk : cvE dk = 12) (hT : Tabs w) :
  Calls Tryz.prog 17 #[vd, vc] w fun e w' => e = .returned (.tuple #[.slice none 0 0, .int .i64 12]) ∧ Below w.heap.size w w' := by
 obtain ⟨ak, ck, rfl, -, -, -, -⟩ := id hd
 obtain ⟨ac, cc, rfl, -, -, -, -⟩ := id hc
 have h1 : ((dk.length : Int) != 2400) = false := by simp; omega
 have h2 : ((c.length : Int) != 1088) = false := by simp; omega
 have HD : Hid (Rd w (.slice ak dk.length ck) dk) := hd
 have HK : Hid _ := hk
 have HT : Hid (Tabs w) := hT
 clear hd hc hdl hcl hk hT
 go_enter Tryz.func17, Tryz.ntmps17
 go_wp2_with fail
 refine (mcv_any _ dk _ HD.out HT.out).mono ?_
 rintro e w1 ⟨rfl, b1⟩
 rw [HK.out]
 go_wp2
 go_ret2
 exact ⟨rfl, b1⟩

set_option maxRecDepth 100000 in
set_option maxHeartbeats 8000000 in
theorem mdecaps_any (vd vc : Value) (dk c : List UInt8) (w : World) (hd : Rd w vd dk) (hc : Rd w vc c) (hdl : dk.length = 2400) (hcl : c.length = 1088) (hk : cvE dk = 0) (hT : Tabs w) (hP : PwT w) :
  Calls Tryz.prog 17 #[vd, vc] w fun e w' => ∃ x, e = .returned (.tuple #[x, .int .i64 0]) ∧ Rd w' x (opL dk c) ∧ Below w.heap.size w w' := by
 obtain ⟨a0, ck, ev, hck, hmk, -, h5⟩ := id hd
 rcases h5 with h5 | ⟨b, o, rfl, -⟩
 ·rw [h5] at hdl
  simp at hdl
 subst ev
 obtain ⟨ac, cc, rfl, -, -, -, -⟩ := id hc
 rw [hdl] at hd hck ⊢
 rw [hcl] at hc ⊢
 have k2 := hT.two
 have HS0 : Hid (Rd w (.slice (some ⟨b, o, none⟩) 1152 1152) (dk.take 1152)) := hd.part 0 1152 (by omega) (by omega)
 have HS1 : Hid (Rd w (.slice (some ⟨b, o + 1152, none⟩) 1184 1184) ((dk.drop 1152).take 1184)) := hd.part 1152 2336 (by omega) (by omega)
 have HS2 : Hid (Rd w (.slice (some ⟨b, o + 2336, none⟩) 32 32) ((dk.drop 2336).take 32)) := hd.part 2336 2368 (by omega) (by omega)
 have HS3 : Hid (Rd w (.slice (some ⟨b, o + 2368, none⟩) 32 32) (dk.drop 2368)) := by
  have h := hd.part 2368 2400 (by omega) (by omega)
  rw [List.take_of_length_le (by rw [List.length_drop, hdl]; decide)] at h
  exact h
 have HD : Hid (Rd w (.slice (some ⟨b, o, none⟩) 2400 ck) dk) := hd
 have HC : Hid (Rd w (.slice ac 1088 cc) c) := hc
 have L0 : Hid ((dk.take 1152).length = 1152) := by show _ = _; rw [List.length_take, hdl]; decide
 have L1 : Hid (((dk.drop 1152).take 1184).length = 1184) := by show _ = _; rw [List.length_take, List.length_drop, hdl]; decide
 have L2 : Hid (((dk.drop 2336).take 32).length = 32) := by show _ = _; rw [List.length_take, List.length_drop, hdl]; decide
 have L3 : Hid ((dk.drop 2368).length = 32) := by show _ = _; rw [List.length_drop, hdl]
 have LC : Hid _ := hcl
 have HK : Hid _ := hk
 have HT : Hid (Tabs w) := hT
 have HP : Hid (PwT w) := hP
 have HCk : Hid _ := hck
 have HMk : Hid _ := hmk
 have HO : Hid (opL dk c = if ciL ((dk.drop 1152).take 1184) (meL (dk.take 1152) c) ((hsD (meL (dk.take 1152) c ++ (dk.drop 2336).take 32)).drop 32) = c then (hsD (meL (dk.take 1152) c ++ (dk.drop 2336).take 32)).take 32 else shS (dk.drop 2368 ++ c) 32) := by show _ = _; rfl
 have LM : Hid ((meL (dk.take 1152) c).length = 32) := meL_length _ _
 clear hd hc hdl hcl hk hT hP hck hmk
 go_enter Tryz.func17, Tryz.ntmps17
 go_wp2_with fail
 refine (mcv_any _ dk _ HD.out HT.out).mono ?_
 rintro e w1 ⟨rfl, b1⟩
 rw [HK.out]
 generalize (dk.drop 1152).take 1184 = A1 at HS1 L1 HO
 generalize (dk.drop 2336).take 32 = A2 at HS2 L2 HO
 generalize dk.drop 2368 = A3 at HS3 L3 HO
 generalize dk.take 1152 = A0 at HS0 L0 HO LM
 go_wp2_with fail
 refine (kparts_any b o ck HCk.out HMk.out _).mono ?_
 rintro e w2 ⟨rfl, b2⟩
 have hbw := stepB b1 b2
 have z2 := hbw.size
 clear b1 b2
 go_wp2_with (refine wpList_alloc_blk rfl 45 rfl _ (alloc_pv _) ?_)
 intro w3 r3 b3 s3
 replace hbw := stepB hbw b3
 clear b3 s3
 go_wp2_with (refine wpList_store_part rfl 45 _ _ rfl rfl (pvC b o) rfl [] _ [] (pvC b o) r3 (whole14 _) (whole14 _) rfl rfl info_pv (pvC_all _ _) ?_)
 intro w4 r4 hw4
 replace hbw := hw4.below _ _ z2 hbw
 clear r3 hw4
 have c0 := (pv_at r4).1
 go_wp2_with fail
 refine (kdec_any _ _ A0 c _ (Rd.kept HS0.out hbw) (Rd.kept HC.out hbw) L0.out LC.out (HP.out.kept hbw)).mono ?_
 rintro e w5 ⟨vm, rfl, hN5⟩
 have hrm := hN5.rd
 obtain ⟨am, cm, rfl, -⟩ := id hrm
 replace hbw := stepB hbw hN5.2
 replace r4 := r4.kept hN5.2
 generalize meL A0 c = M at hrm HO LM
 obtain ⟨G, hG⟩ : ∃ G : List UInt8, hsD (M ++ A2) = G := ⟨_, rfl⟩
 rw [hG] at HO
 have HG : Hid _ := hG
 have HGl : Hid ((G.take 32).length = 32) := by show _ = _; rw [← hG, List.length_take, hsD_length]; decide
 clear hN5 c0 hG
 have c1 := (pv_at r4).2.1
 have c2 := (pv_at r4).2.2.1
 go_wp2_with fail
 refine (msealed_any _ _ _ A1 A2 M G _ (Rd.kept HS1.out hbw) (Rd.kept HS2.out hbw) hrm L1.out L2.out LM.out HG.out (HT.out.kept hbw) (HP.out.kept hbw)).mono ?_
 rintro e w6 ⟨vs, va, rfl, hx, hN6⟩
 have hra := hN6.rd
 replace hbw := stepB hbw hN6.2
 replace r4 := r4.kept hN6.2
 have L6 : Hid _ := ciL_length A1 M (G.drop 32)
 generalize ciL A1 M (G.drop 32) = X at hra HO L6
 obtain ⟨asv, cs, rfl, -⟩ := id hx
 obtain ⟨aa, ca, rfl, -⟩ := id hra
 rw [HGl.out] at hx ⊢
 rw [L6.out] at hra ⊢
 generalize G.take 32 = T at hx HO HGl
 have HX : Hid (Rd w6 (.slice asv 32 cs) T) := hx
 have HA : Hid (Rd w6 (.slice aa 1088 ca) X) := hra
 clear hN6 hrm c1 c2 hx hra HG LM
 have c3 := (pv_at r4).2.2.2
 have hL := RdL.pair12 (e := 22) (b := w6.heap.size) rfl (Rd.kept HS3.out hbw) (Rd.kept HC.out hbw)
 have g1 := growB (w := w6) (.cells #[.slice (some ⟨b, o + 2368, none⟩) 32 32, .slice ac 1088 cc] 22)
 go_wp2_with fail
 refine (join_any _ _ _ _ hL (tot_two _ _ (by rw [L3.out]; decide) (by rw [LC.out]; decide))).mono ?_
 rintro e w7 ⟨v7, rfl, hN7⟩
 have hr7 := hN7.two13.rd
 have b7 := stepB g1 hN7.2
 have z5 := b7.size
 clear hN7 hL g1 c3 r4
 go_wp2_with fail
 refine (shake256_any _ (A3 ++ c) _ hr7 (HT.out.kept (stepB hbw b7))).mono ?_
 rintro e w8 ⟨gx, rfl, hgx, hXP, b8⟩
 replace b7 := stepB b7 b8
 have z7 := b7.size
 have z8 := (stepB hbw b7).size
 have z6 := hbw.size
 clear hr7 b8
 go_wp2_with fail
 refine (read_any gx (abF 136 31 (A3 ++ c)) (abF_lt _ _ _) 136 0 (by omega) (by omega) 32 32 rfl (by omega) _ hXP (by omega) (HT.out.kept (stepB hbw b7))).mono ?_
 rintro e w9 ⟨v9, rfl, hO9, -, hC9, -⟩
 have b9 := hC9.past b7 (by omega) (by omega)
 have hr9 := Rd.of_row hO9
 rw [pcL_first] at hr9
 have hr9' : Rd w9 v9 (shS (A3 ++ c) 32) := hr9
 have L9 : Hid ((shS (A3 ++ c) 32).length = 32) := otL_length _ _ _
 generalize shS (A3 ++ c) 32 = Z at hr9' HO L9
 obtain ⟨a9, c9, rfl, -⟩ := id hr9'
 rw [L9.out] at hr9' ⊢
 have HZ : Hid (Rd w9 (.slice a9 32 c9) Z) := hr9'
 clear hr9 hr9' hO9 hC9 hXP b7
 have hb9 := stepB hbw b9
 obtain ⟨q, hq⟩ : ∃ q : Bool, decide (X = c) = q := ⟨_, rfl⟩
 have HQ : Hid _ := hq
 clear hq hbw
 go_wp2_with fail
 refine (equal_bool _ _ X c q HQ.out _ (Rd.kept HA.out b9) (Rd.kept HC.out hb9)).mono ?_
 rintro e w10 ⟨rfl, b10⟩
 replace hb9 := stepB hb9 b10
 replace b9 := stepB b9 b10
 have HZ10 : Hid (Rd w10 (.slice a9 32 c9) Z) := Rd.kept HZ.out b10
 clear b10 HZ
 go_wp2_with fail
 refine (kbit_any q _).mono ?_
 rintro e w11 ⟨rfl, rfl⟩
 cases q
 ·have HE : Hid (opL dk c = Z) := by
   show _ = _
   rw [HO.out, if_neg (of_decide_eq_false HQ.out)]
  go_wp2_with fail
  refine (select_yes 0 0 _ _ Z T Z _ HZ10.out (Rd.kept HX.out b9) (by rw [L9.out, HGl.out]) (by rw [L9.out]; decide) (.inl ⟨rfl, rfl, rfl⟩)).mono ?_
  rintro e w12 ⟨v12, rfl, hN⟩
  have HR : Hid _ := hN.rd
  have HB : Hid _ := stepB hb9 hN.2
  clear hN hb9 b9
  go_wp2
  go_ret2
  exact ⟨v12, rfl, by rw [HE.out]; exact HR.out, HB.out⟩
 ·have HE : Hid (opL dk c = T) := by
   show _ = _
   rw [HO.out, if_pos (of_decide_eq_true HQ.out)]
  go_wp2_with fail
  refine (select_yes 1 255 _ _ Z T T _ HZ10.out (Rd.kept HX.out b9) (by rw [L9.out, HGl.out]) (by rw [L9.out]; decide) (.inr ⟨rfl, rfl, rfl⟩)).mono ?_
  rintro e w12 ⟨v12, rfl, hN⟩
  have HR : Hid _ := hN.rd
  have HB : Hid _ := stepB hb9 hN.2
  clear hN hb9 b9
  go_wp2
  go_ret2
  exact ⟨v12, rfl, by rw [HE.out]; exact HR.out, HB.out⟩
def gkA (d z : List UInt8) : List UInt8 × List UInt8 × Int := if d.length = 32 ∧ z.length = 32 then (ekL d, kdL d z, 0) else ([], [], 1)
def eaA (ek m : List UInt8) : List UInt8 × List UInt8 × Int := if ek.length = 1184 ∧ m.length = 32 then if ckE ek = 0 then ((seG ek m).take 32, ciL ek m ((seG ek m).drop 32), 0) else ([], [], 12) else ([], [], 1)
def oaA (dk c : List UInt8) : List UInt8 × Int := if dk.length = 2400 ∧ c.length = 1088 then if cvE dk = 0 then (opL dk c, 0) else ([], 12) else ([], 1)
theorem ckE_or (ek : List UInt8) (hl : ek.length = 1184) (h : ¬ ckE ek = 0) : ckE ek = 12 := by
 unfold ckE at h ⊢
 rw [if_pos hl] at h ⊢
 by_cases hb : ckB ek = true
 ·rw [if_pos hb] at h
  exact (h rfl).elim
 ·rw [if_neg hb]
theorem cvE_or (dk : List UInt8) (hl : dk.length = 2400) (h : ¬ cvE dk = 0) : cvE dk = 12 := by
 unfold cvE at h ⊢
 rw [if_pos hl] at h ⊢
 by_cases hb : hsS ((dk.drop 1152).take 1184) = (dk.drop 2336).take 32
 ·rw [if_pos hb] at h
  exact (h rfl).elim
 ·rw [if_neg hb]

theorem gen14_all (vd vz : Value) (d z : List UInt8) (w : World) (hd : Rd w vd d) (hz : Rd w vz z) :
  Calls Tryz.prog 10 #[vd, vz] w fun e w' => ∃ x y, e = .returned (.tuple #[x, y, .int .i64 (gkA d z).2.2]) ∧ Rd w' x (gkA d z).1 ∧ Rd w' y (gkA d z).2.1 ∧ Below w.heap.size w w' := by
 unfold gkA
 by_cases h : d.length = 32 ∧ z.length = 32
 ·rw [if_pos h]
  refine (gen14_any vd vz d z w hd hz h.1 h.2).mono ?_
  rintro e w' ⟨x, y, rfl, hO⟩
  exact ⟨x, y, rfl, hO.rd0, hO.tail.rd0, hO.below⟩
 ·rw [if_neg h]
  refine (gen14_arg vd vz d z w hd hz h).mono ?_
  rintro e w' ⟨rfl, rfl⟩
  exact ⟨_, _, rfl, Rd.nil _, Rd.nil _, Below.refl _ _⟩
theorem mencaps_all (ve vm : Value) (ek m : List UInt8) (w : World) (he : Rd w ve ek) (hm : Rd w vm m) (hT : Tabs w) (hP : PwT w) :
  Calls Tryz.prog 15 #[ve, vm] w fun e w' => ∃ x y, e = .returned (.tuple #[x, y, .int .i64 (eaA ek m).2.2]) ∧ Rd w' x (eaA ek m).1 ∧ Rd w' y (eaA ek m).2.1 ∧ Below w.heap.size w w' := by
 unfold eaA
 by_cases h : ek.length = 1184 ∧ m.length = 32
 ·rw [if_pos h]
  by_cases hk : ckE ek = 0
  ·rw [if_pos hk]
   refine (mencaps_any ve vm ek m w he hm h.1 h.2 hk hT hP).mono ?_
   rintro e w' ⟨x, y, rfl, hx, hN⟩
   exact ⟨x, y, rfl, hx, hN.rd, hN.2⟩
  ·rw [if_neg hk]
   refine (mencaps_key ve vm ek m w he hm h.1 h.2 (ckE_or ek h.1 hk)).mono ?_
   rintro e w' ⟨rfl, hb⟩
   exact ⟨_, _, rfl, Rd.nil _, Rd.nil _, hb⟩
 ·rw [if_neg h]
  refine (mencaps_arg ve vm ek m w he hm h).mono ?_
  rintro e w' ⟨rfl, rfl⟩
  exact ⟨_, _, rfl, Rd.nil _, Rd.nil _, Below.refl _ _⟩
theorem encaps14_all (ve vm : Value) (ek m : List UInt8) (w : World) (he : Rd w ve ek) (hm : Rd w vm m) :
  Calls Tryz.prog 16 #[ve, vm] w fun e w' => ∃ x y, e = .returned (.tuple #[x, y, .int .i64 (eaA ek m).2.2]) ∧ Rd w' x (eaA ek m).1 ∧ Rd w' y (eaA ek m).2.1 ∧ Below w.heap.size w w' := by
 unfold eaA
 by_cases h : ek.length = 1184 ∧ m.length = 32
 ·rw [if_pos h]
  by_cases hk : ckE ek = 0
  ·rw [if_pos hk]
   refine (encaps14_any ve vm ek m w he hm h.1 h.2 hk).mono ?_
   rintro e w' ⟨x, y, rfl, hx, hN⟩
   exact ⟨x, y, rfl, hx, hN.rd, hN.2⟩
  ·rw [if_neg hk]
   refine (encaps14_key ve vm ek m w he hm h.1 h.2 (ckE_or ek h.1 hk)).mono ?_
   rintro e w' ⟨rfl, hb⟩
   exact ⟨_, _, rfl, Rd.nil _, Rd.nil _, hb⟩
 ·rw [if_neg h]
  refine (encaps14_arg ve vm ek m w he hm h).mono ?_
  rintro e w' ⟨rfl, rfl⟩
  exact ⟨_, _, rfl, Rd.nil _, Rd.nil _, Below.refl _ _⟩
theorem mdecaps_all (vd vc : Value) (dk c : List UInt8) (w : World) (hd : Rd w vd dk) (hc : Rd w vc c) (hT : Tabs w) (hP : PwT w) :
  Calls Tryz.prog 17 #[vd, vc] w fun e w' => ∃ x, e = .returned (.tuple #[x, .int .i64 (oaA dk c).2]) ∧ Rd w' x (oaA dk c).1 ∧ Below w.heap.size w w' := by
 unfold oaA
 by_cases h : dk.length = 2400 ∧ c.length = 1088
 ·rw [if_pos h]
  by_cases hk : cvE dk = 0
  ·rw [if_pos hk]
   exact mdecaps_any vd vc dk c w hd hc h.1 h.2 hk hT hP
  ·rw [if_neg hk]
   refine (mdecaps_key vd vc dk c w hd hc h.1 h.2 (cvE_or dk h.1 hk) hT).mono ?_
   rintro e w' ⟨rfl, hb⟩
   exact ⟨_, rfl, Rd.nil _, hb⟩
 ·rw [if_neg h]
  refine (mdecaps_arg vd vc dk c w hd hc h).mono ?_
  rintro e w' ⟨rfl, rfl⟩
  exact ⟨_, rfl, Rd.nil _, Below.refl _ _⟩
theorem decaps14_all (vd vc : Value) (dk c : List UInt8) (w : World) (hd : Rd w vd dk) (hc : Rd w vc c) :
  Calls Tryz.prog 18 #[vd, vc] w fun e w' => ∃ x, e = .returned (.tuple #[x, .int .i64 (oaA dk c).2]) ∧ Rd w' x (oaA dk c).1 ∧ Below w.heap.size w w' := by
 unfold oaA
 by_cases h : dk.length = 2400 ∧ c.length = 1088
 ·rw [if_pos h]
  by_cases hk : cvE dk = 0
  ·rw [if_pos hk]
   exact decaps14_any vd vc dk c w hd hc h.1 h.2 hk
  ·rw [if_neg hk]
   refine (decaps14_key vd vc dk c w hd hc h.1 h.2 (cvE_or dk h.1 hk)).mono ?_
   rintro e w' ⟨rfl, hb⟩
   exact ⟨_, rfl, Rd.nil _, hb⟩
 ·rw [if_neg h]
  refine (decaps14_arg vd vc dk c w hd hc h).mono ?_
  rintro e w' ⟨rfl, rfl⟩
  exact ⟨_, rfl, Rd.nil _, Below.refl _ _⟩

theorem ke_all (K : List UInt8) (hK : K = List.replicate 32 0) : ckE (ekL K) = 0 ∧ cvE (kdL K K) = 0 ∧ opL (kdL K K) (ciL (ekL K) K ((seG (ekL K) K).drop 32)) = (seG (ekL K) K).take 32 := by
 have hl : K.length = 32 := by rw [hK, List.length_replicate]
 refine ⟨ckE_key K, cvE_key K K hl, opL_key K K K hl ?_⟩
 have e1 : K = kedb := by rw [hK]; decide
 have e2 : kedb = kemb := by decide
 have h := ke_kem
 rw [← e2, ← e1] at h
 exact h
theorem cvE_len (dk : List UInt8) (hl : dk.length = 32) : cvE dk = 1 := by
 unfold cvE
 rw [if_neg (by omega)]

theorem max14 {l : List UInt8} (h : l.length = 32) : (byI l).length ≤ maxLen := by
 rw [byI_length, h]
 unfold maxLen
 omega
theorem ne14 {l : List UInt8} (h : l.length = 32) : byI l ≠ [] := byI_ne (by rw [← List.length_pos_iff]; omega)

set_option maxRecDepth 100000 in
set_option maxHeartbeats 8000000 in
theorem awake_any (w : World) (hT : Tabs w) (hP : PwT w) : Calls Tryz.prog 8 #[] w fun e w' => e = .returned (.bool true) ∧ Below w.heap.size w w' := by
 obtain ⟨ti, hti, hz0, hz1, hz2⟩ := info_parts info513
 have HT : Hid (Tabs w) := hT
 have HP : Hid (PwT w) := hP
 clear hT hP
 go_enter Tryz.func8, Tryz.ntmps8
 go_wp2_with (at_make; go_must (refine wpList_make_full _ rfl _ _ 22 rfl w.heap.size 5 ti _ 1 Tryz.underlying22 hti hz0 hz1 _ _ _ _ 32 rfl rfl rfl rfl (by rw [hz2]; omega) (by unfold maxLen; omega) (Nat.le_refl _) ?_))
 intro w1 hown hgr
 have hN1 := New.made hown hgr
 have HK : Hid ((List.replicate 32 (0 : UInt8)).length = 32) := by show _ = _; simp
 have HA : Hid _ := ke_all _ (rfl : List.replicate 32 (0 : UInt8) = List.replicate 32 0)
 generalize List.replicate 32 (0 : UInt8) = K at hN1 HK HA
 have HZ : Hid (Rd w1 (.slice (some ⟨w.heap.size, 0, none⟩) 32 32) K) := hN1.rd
 have hbw := hN1.2
 clear hown hgr hN1
 go_wp2_with fail
 refine (mgen_any _ _ K K _ HZ.out HZ.out HK.out HK.out (HT.out.kept hbw) (HP.out.kept hbw)).mono ?_
 rintro e w2 ⟨x, y, rfl, hO⟩
 have HXl : Hid _ := ekL_length K
 have HYl : Hid _ := kdL_length K K HK.out
 generalize kdL K K = D at hO HA HYl
 generalize ekL K = E at hO HA HXl
 have HX : Hid (Rd w2 x E) := hO.rd0
 have HY : Hid (Rd w2 y D) := hO.tail.rd0
 have b2 := hO.below
 replace hbw := stepB hbw b2
 obtain ⟨ax, cx, rfl, -⟩ := id HX.out
 obtain ⟨ay, cy, rfl, -⟩ := id HY.out
 rw [HXl.out] at HX ⊢
 rw [HYl.out] at HY ⊢
 have HZ2 : Hid (Rd w2 (.slice (some ⟨w.heap.size, 0, none⟩) 32 32) K) := Rd.kept HZ.out b2
 clear hO b2 HZ
 go_wp2_with fail
 refine (mencaps_any _ _ E K _ HX.out HZ2.out HXl.out HK.out HA.out.1 (HT.out.kept hbw) (HP.out.kept hbw)).mono ?_
 rintro e w3 ⟨kv, c, rfl, hkv, hN3⟩
 have HCl : Hid _ := ciL_length E K ((seG E K).drop 32)
 have HSl : Hid (((seG E K).take 32).length = 32) := by show _ = _; rw [List.length_take]; unfold seG; rw [hsD_length]; decide
 generalize ciL E K ((seG E K).drop 32) = C at hN3 HA HCl
 generalize (seG E K).take 32 = S at hkv HA HSl
 have b3 := hN3.2
 have HC : Hid (Rd w3 c C) := hN3.rd
 have HKv : Hid (Rd w3 kv S) := hkv
 replace hbw := stepB hbw b3
 obtain ⟨ac, cc, rfl, -⟩ := id HC.out
 obtain ⟨ak, ckk, rfl, -⟩ := id HKv.out
 rw [HCl.out] at HC ⊢
 rw [HSl.out] at HKv ⊢
 have HX3 : Hid (Rd w3 (.slice ax 1184 cx) E) := Rd.kept HX.out b3
 have HY3 : Hid (Rd w3 (.slice ay 2400 cy) D) := Rd.kept HY.out b3
 have HZ3 : Hid (Rd w3 (.slice (some ⟨w.heap.size, 0, none⟩) 32 32) K) := Rd.kept HZ2.out b3
 clear hN3 b3 HX HY HZ2 hkv
 go_wp2_with fail
 refine (mdecaps_any _ _ D C _ HY3.out HC.out HYl.out HCl.out HA.out.2.1 (HT.out.kept hbw) (HP.out.kept hbw)).mono ?_
 rintro e w4 ⟨mv, rfl, hmv, b4⟩
 rw [HA.out.2.2] at hmv
 have HM : Hid (Rd w4 mv S) := hmv
 replace hbw := stepB hbw b4
 have HX4 : Hid (Rd w4 (.slice ax 1184 cx) E) := Rd.kept HX3.out b4
 have HY4 : Hid (Rd w4 (.slice ay 2400 cy) D) := Rd.kept HY3.out b4
 have HZ4 : Hid (Rd w4 (.slice (some ⟨w.heap.size, 0, none⟩) 32 32) K) := Rd.kept HZ3.out b4
 have HK4 : Hid (Rd w4 (.slice ak 32 ckk) S) := Rd.kept HKv.out b4
 clear hmv b4 HX3 HY3 HC HZ3 HKv
 go_wp2_with (at_make; go_must (refine wpList_make_full _ rfl _ _ 22 rfl w4.heap.size 5 ti _ 1 Tryz.underlying22 hti hz0 hz1 _ _ _ _ 1184 rfl rfl rfl rfl (by rw [hz2]; omega) (by unfold maxLen; omega) (Nat.le_refl _) ?_))
 intro w5 hown hgr
 have hN5 := New.made hown hgr
 have HL0 : Hid ((List.replicate 1184 (0 : UInt8)).length = 1184) := List.length_replicate ..
 generalize List.replicate 1184 (0 : UInt8) = e0 at hN5 HL0
 have re := hN5.rowB (by intro h; have := HL0.out; rw [h] at this; simp at this)
 have hb5 := hN5.2
 clear hown hgr hN5
 have HBw : Hid (Below w.heap.size w w4) := hbw
 clear hbw
 go_wp2
 go_loopw [11] (fun iv wx => ∃ (i : Nat) (l : List UInt8), i ≤ 1184 ∧ iv = .int .i64 (i : Int) ∧ Hid (l.length = 1184) ∧ Hid (∀ k, k < i → l.getD k 0 = 255) ∧ RowAt .u8 5 w4.heap.size 1184 (byI l) wx ∧ Below w4.heap.size w4 wx) (fun iv _ => 1184 - (intOf iv).toNat)
 case atStart => exact ⟨0, e0, by omega, rfl, HL0, (fun k hk => by omega), re, hb5⟩
 case round =>
  obtain ⟨i, l, hi, rfl, HL, HF, re1, hbx⟩ := hrel
  clear re hb5
  by_cases hlt : i < 1184
  ·have hd : decide ((i : Int) < 1184) = true := decide_eq_true (by omega)
   have hiI : (i : Int) < 1184 := by omega
   have hc := re1.cellB (j := i) (by rw [HL.out]; exact hlt)
   have hf := re1.free i
   have r5 := re1.setB i 255
   have hw5 := Wrote.set w4.heap.size i wr (.int .u8 255)
   have HL5 : Hid ((l.set i 255).length = 1184) := by show _ = _; rw [List.length_set]; exact HL.out
   have HF5 : Hid (∀ k, k < i + 1 → (l.set i 255).getD k 0 = 255) := fun k hk => by
    rw [List.getD_eq_getElem?_getD, List.getElem?_set]
    by_cases e : i = k
    ·rw [if_pos e, if_pos (by rw [HL.out]; omega)]
     rfl
    ·rw [if_neg e, ← List.getD_eq_getElem?_getD]
     exact HF.out k (by omega)
   have R5 : Hid (RowAt .u8 5 w4.heap.size 1184 (byI (l.set i 255)) (wr.setCell ⟨w4.heap.size, i, none⟩ (.int .u8 255))) := r5
   have HB5 : Hid _ := hw5.below _ _ (Nat.le_refl _) hbx
   clear r5 hw5 re1 hbx
   go_wp2
   go_roundw
   case rel => exact ⟨i + 1, l.set i 255, by omega, by go_num, HL5, HF5, R5.out, HB5.out⟩
   case measure => simp [intOf] <;> omega
  ·have hd : decide ((i : Int) < 1184) = false := decide_eq_false (by omega)
   have hiI : (1184 : Int) ≤ (i : Int) := by omega
   have HCb : Hid (ckE l = 12) := ckE_full l HL.out fun k hk => HF.out k (by omega)
   have hrl := re1.rdB
   rw [HL.out] at hrl
   have HRl : Hid (Rd wr (.slice (some ⟨w4.heap.size, 0, none⟩) 1184 1184) l) := hrl
   have hm1 := convS (Rd.kept HM.out hbx)
   have hk1 := convS (Rd.kept HK4.out hbx)
   have hee : (S == S) = true := by simp
   have HBx : Hid _ := hbx
   clear hrl re1 HF hbx
   go_wp2_with fail
   refine (mcheck_any _ l _ HRl.out).mono ?_
   rintro e w6 ⟨rfl, b6⟩
   rw [HCb.out]
   have hbx := stepB HBx.out b6
   clear b6 hm1 hk1
   go_wp2_with fail
   refine (mcheck_any _ E _ (Rd.kept HX4.out hbx)).mono ?_
   rintro e w7 ⟨rfl, b7⟩
   rw [HA.out.1]
   replace hbx := stepB hbx b7
   clear b7
   go_wp2_with fail
   refine (mcv_any _ D _ (Rd.kept HY4.out hbx) (HT.out.kept (stepB HBw.out hbx))).mono ?_
   rintro e w8 ⟨rfl, b8⟩
   rw [HA.out.2.1]
   replace hbx := stepB hbx b8
   clear b8
   go_wp2_with fail
   refine (mcv_any _ K _ (Rd.kept HZ4.out hbx) (HT.out.kept (stepB HBw.out hbx))).mono ?_
   rintro e w9 ⟨rfl, b9⟩
   rw [cvE_len K HK.out]
   have HB9 : Hid _ := stepB HBw.out (stepB hbx b9)
   clear b9 hbx
   go_wp2
   go_ret
   exact ⟨rfl, HB9.out⟩
end Go.Proofs.YtmhbjaampobcbaaGreatDoor
