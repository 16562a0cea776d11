/- Two states of one name: the law's walk. -/
import Derived.Test.YtdlmmcilembjgaaDoorGf
namespace Go.Proofs.YtdlmmcilembjgaaDoor
open Go.ChangeShapes Go.WideShapes Go.ChangeAt Go.RowKit
set_option linter.unusedSimpArgs false
set_option linter.unusedVariables false

theorem Own.first {e : TypeId} {w0 w : World} {v : Value} {l : List UInt8} {L : List (Value × List UInt8)} (h : Own e w0 ((v, l) :: L) w) : New e w0 v l w := ⟨h.rows _ (List.mem_cons_self ..), h.below⟩
theorem Ow.write {base g cap n : Nat} {l : List UInt8} {w : World} {a : Option Addr} (hn : n = l.length) (h : Ow 5 base (.slice a n cap) l w) {j : Nat} (hj : j < n) (u : UInt8) :
  ∃ b, a = some ⟨b, 0, none⟩ ∧ n ≤ cap ∧ w.cell? ⟨b, j, none⟩ = some (.int .u8 ((l.getD j 0).toNat : Int)) ∧ w.frozen? ⟨b, j, none⟩ = false ∧ Ow 5 base (.slice a n cap) (l.set j u) (w.setCell ⟨b, j, none⟩ (.int .u8 ((u.toNat : Nat) : Int))) ∧ Chg (fun i => (Value.slice a n cap).ownBlock = some i) w (w.setCell ⟨b, j, none⟩ (.int .u8 ((u.toNat : Nat) : Int))) := by
 obtain ⟨b, rfl, hb, hc, h1, h2, h3⟩ := own_at hn h hj
 refine ⟨b, rfl, hc, h1, h2, h3 u _ rfl, ?_⟩
 have := Chg.of_wrote (Wrote.set b j w (.int .u8 ((u.toNat : Nat) : Int)))
 exact this.mono fun k _ e => by rw [e]; rfl

set_option maxRecDepth 100000 in
set_option maxHeartbeats 8000000 in
theorem agrees_walk (v vt : Value) (l : List UInt8) (vs : List Value) (ls : List (List UInt8)) (t : List UInt8) (hm : l.length ≤ maxLen) (w : World) (hL : RdL w v vs ls) (htx : Rd w vt t) (ht : Tabs w) (hp : PlT w) (hk : KpT w) :
  Calls Tryd.prog 5 #[.string ⟨l.toArray⟩, v, vt] w fun e w' => e = .returned (.bool true) ∧ Below w.heap.size w w' := by
 have hsz : (⟨l.toArray⟩ : ByteArray).size = l.length := by simp [ByteArray.size]
 have HT : Hid (Tabs w) := ht
 have HP : Hid (PlT w) := hp
 have HK : Hid (KpT w) := hk
 have HL : Hid (RdL w v vs ls) := hL
 obtain ⟨at', ct, rfl, hct, hmt, -, -⟩ := id htx
 have HTX : Hid (Rd w (.slice at' t.length ct) t) := htx
 obtain ⟨⟨av, cv, rfl, hcv, hmv, hv0⟩, -, -⟩ := hL
 unfold maxLen at hm hmt hmv
 clear ht hp hk htx hv0
 go_enter Tryd.func5, Tryd.ntmps5
 go_wp2_with fail
 refine (awake_any w HT.out HP.out HK.out).mono ?_
 rintro e w1 ⟨rfl, b1⟩
 by_cases hlong : 300 < l.length ∨ 500 < t.length
 ·have HB1 : Hid _ := b1
  clear b1
  rcases (by omega : 300 < l.length ∨ (¬ 300 < l.length ∧ 500 < t.length)) with h | ⟨h, h'⟩
  ·have d1 : decide ((300 : Int) < (l.length : Int)) = true := decide_eq_true (by omega)
   clear hlong h
   go_wp2_with fail
   go_ret
   exact ⟨rfl, HB1.out⟩
  ·have d1 : decide ((300 : Int) < (l.length : Int)) = false := decide_eq_false (by omega)
   have d2 : decide ((500 : Int) < (t.length : Int)) = true := decide_eq_true (by omega)
   clear hlong h h'
   go_wp2_with fail
   go_ret
   exact ⟨rfl, HB1.out⟩
 have d1 : decide ((300 : Int) < (l.length : Int)) = false := decide_eq_false (by omega)
 have d2 : decide ((500 : Int) < (t.length : Int)) = false := decide_eq_false (by omega)
 have HLn : Hid (l.length ≤ 300 ∧ t.length ≤ 500) := (by omega : l.length ≤ 300 ∧ t.length ≤ 500)
 clear hlong hm
 go_wp2_with fail
 refine (snew_any l (by have := HLn.out; omega) _ (HT.out.kept b1)).mono ?_
 rintro e w2 ⟨g1, rfl, hg1, hS1, b2⟩
 have HS1 : Hid (StP w.heap.size g1 (nwS l) w2) := hS1.mono b1.size
 have HG1 : Hid (w.heap.size ≤ g1) := Nat.le_trans b1.size hg1
 have HB2 : Hid (Below w.heap.size w w2) := stepB b1 b2
 clear hS1 b1 b2 hg1 d1
 go_wp2_with fail
 refine (snew_any l (by have := HLn.out; omega) _ (HT.out.kept HB2.out)).mono ?_
 rintro e w3 ⟨g2, rfl, hg2, hS2, b3⟩
 have HN : Hid (g1 ≠ g2) := (by have := HS1.out.lt; omega : g1 ≠ g2)
 have HS2 : Hid (StP w.heap.size g2 (nwS l) w3) := hS2.mono HB2.out.size
 have HG2 : Hid (w.heap.size ≤ g2) := Nat.le_trans HB2.out.size hg2
 replace HS1 : Hid (StP w.heap.size g1 (nwS l) w3) := HS1.out.kept b3
 have HB3 : Hid (Below w.heap.size w w3) := stepB HB2.out b3
 clear hS2 hg2 b3 HB2 d2
 go_wp2
 go_loopw [10] (fun iv wx => ∃ (i : Nat) (s : Sta), i ≤ 6 ∧ iv = .int .i64 (i : Int) ∧ Hid (Sound s) ∧ Hid (StP w.heap.size g1 s wx) ∧ Hid (StP w.heap.size g2 s wx) ∧ Hid (Below w.heap.size w wx)) (fun iv _ => 6 - (intOf iv).toNat)
 case atStart => exact ⟨0, nwS l, by omega, rfl, Sound.nw l, HS1.out, HS2.out, HB3.out⟩
 case round =>
  obtain ⟨i, s, hi, rfl, HSd, HS1, HS2, HB⟩ := hrel
  clear HB3
  rename World => wx
  by_cases hin : i < vs.length ∧ i < 6
  ·obtain ⟨hin1, hin6⟩ := hin
   have d3 : decide ((i : Int) < (vs.length : Int)) = true := decide_eq_true (by omega)
   have d4 : decide ((i : Int) < 6) = true := decide_eq_true (by omega)
   obtain ⟨b, off, cap, a', cap', e1, hcap, hcell, hr⟩ := (HL.out.kept HB.out).cellAt hin1
   simp only [Value.slice.injEq] at e1
   obtain ⟨rfl, -, rfl⟩ := e1
   have hiI : (i : Int) < (vs.length : Int) := by omega
   generalize hls : ls.getD i [] = li at hcell hr
   obtain ⟨ar, cr, er, hcr, hmr, -, -⟩ := id hr
   simp only [Value.slice.injEq] at er
   obtain ⟨rfl, -, rfl⟩ := er
   unfold maxLen at hmr
   have HR : Hid (Rd wx (.slice a' li.length cap') li) := hr
   clear hr
   by_cases h5 : 500 < li.length
   ·have d5 : decide ((500 : Int) < (li.length : Int)) = true := decide_eq_true (by omega)
    clear hls
    go_wp2_with fail
    go_ret
    exact ⟨rfl, HB.out⟩
   have d5 : decide ((500 : Int) < (li.length : Int)) = false := decide_eq_false (by omega)
   have HL5 : Hid (li.length ≤ 500) := (by omega : li.length ≤ 500)
   have HLS : Hid (ls.getD i [] = li) := hls
   clear h5 hls
   have hO0 : Own 5 wx [(.slice none 0 0, [])] wx := (Own.start 5 wx).nil
   go_wp2_with (at_builtin; go_must (refine wpList_append_Own (w0 := wx) rfl _ _ 22 rfl Tryd.underlying22 infoU8 _ _ rfl hO0 _ _ rfl HR.out (by have := HL5.out; simp; omega) ?_))
   intro vx w5 hO5
   have hN5 : New 5 wx vx li w5 := by simpa using hO5.first
   clear hO0 hO5
   obtain ⟨ax, cx, rfl, hcx, hmx, -, -⟩ := id hN5.rd
   unfold maxLen at hmx
   have HX : Hid (Ow 5 wx.heap.size (.slice ax li.length cx) li w5) := Ow.of_new hN5
   have HB5 : Hid (Below w.heap.size w w5) := stepB HB.out hN5.2
   have HQ1 : Hid (StQ w.heap.size g1 (fun b => (Value.slice ax li.length cx).ownBlock = some b) s w5) := (HS1.out.q fun x e => (HX.out.lt e).1).kept hN5.2
   have HQ2 : Hid (StQ w.heap.size g2 (fun b => (Value.slice ax li.length cx).ownBlock = some b) s w5) := (HS2.out.q fun x e => (HX.out.lt e).1).kept hN5.2
   have hcell5 : w5.cell? ⟨b, off + i, none⟩ = some (.slice a' li.length cap') := cellT hcell hN5.2
   have HXB : Hid (w.heap.size ≤ wx.heap.size) := HB.out.size
   clear hN5 HS1 HS2 hcell hcell5
   go_wp2_with fail
   refine (smixkey_q w.heap.size g1 _ s _ li (by have := HL5.out; omega) _ (fun x e => (HX.out.lt e).2) HB5.out.size HQ1.out HX.out.rd (HT.out.kept HB5.out)).mono ?_
   rintro e w6 ⟨rfl, hQ6, c6⟩
   replace HX : Hid (Ow 5 wx.heap.size (.slice ax li.length cx) li w6) := StP.own HX.out HQ1.out.p c6
   replace HQ2 : Hid (StQ w.heap.size g2 (fun b => (Value.slice ax li.length cx).ownBlock = some b) s w6) := HQ2.out.other HQ1.out.p c6 HN.out.symm
   replace HQ1 : Hid (StQ w.heap.size g1 (fun b => (Value.slice ax li.length cx).ownBlock = some b) (mkS s li) w6) := hQ6
   have HB6 : Hid (Below w.heap.size w w6) := Chg.gone HB5.out c6 HB5.out.size HG1.out
   clear hQ6 c6 HB5
   have HSo : Hid (Sound (mkS s li)) := HSd.out.mx li
   have HK32 : Hid ((mkS s li).c.key.length = 32) := mcF_length _ _
   have HN0 : Hid ((mkS s li).c.n = 0) := rfl
   have HMK : Hid _ := HSo
   generalize hs1 : mkS s li = s1 at HQ1 HSo HK32 HN0
   have HS1E : Hid (mkS s li = s1) := hs1
   clear HMK hs1
   obtain ⟨n, hn⟩ : ∃ n, n = li.length := ⟨_, rfl⟩
   have HNn : Hid (n = li.length) := hn
   rw [← hn] at HQ1 HQ2 HX hcx ⊢
   have hnI : n ≤ 500 := by have := HL5.out; omega
   clear hn
   go_wp2
   go_loopw [12] (fun kv wy => ∃ (k : Nat) (l' : List UInt8), k ≤ n ∧ kv = .int .i64 (k : Int) ∧ Hid (n = l'.length) ∧ Hid (Ow 5 wx.heap.size (.slice ax n cx) l' wy) ∧ Hid (Chg (fun b => (Value.slice ax n cx).ownBlock = some b) w6 wy)) (fun kv _ => n - (intOf kv).toNat)
   case atStart => exact ⟨0, li, by omega, rfl, HNn.out, HX.out, Chg.refl _ _⟩
   case round =>
    obtain ⟨k, l', hkn, rfl, Hn', HOk, HCk⟩ := hrel
    rename World => wy
    by_cases hlt : k < n
    ·have d6 : decide ((k : Int) < (n : Int)) = true := decide_eq_true (by omega)
     have hkI : (k : Int) < (n : Int) := by omega
     obtain ⟨q, hq⟩ : ∃ q, q = l'.getD k 0 := ⟨_, rfl⟩
     obtain ⟨bx, rfl, hcc, k1, k2, k3, k4⟩ := Ow.write (g := 0) Hn'.out HOk.out hlt (q ^^^ 255)
     rw [← hq] at k1
     have x1 := byte_xor q 255
     rw [show (((255 : UInt8).toNat : Nat) : Int) = 255 from rfl] at x1
     have K3 : Hid _ := k3
     have K4 : Hid _ := k4
     clear k3 k4 hq
     go_wp2
     go_roundw
     case rel => exact ⟨k + 1, l'.set k (q ^^^ 255), by omega, by go_num, (by show n = _; rw [List.length_set]; exact Hn'.out), K3.out, HCk.out.trans K4.out⟩
     case measure => simp [intOf]; omega
    ·have d6 : decide ((k : Int) < (n : Int)) = false := decide_eq_false (by omega)
     have HS1 : Hid (StP w.heap.size g1 s1 wy) := HQ1.out.row HCk.out (HQ1.out.p.not_row HX.out)
     have HS2 : Hid (StP w.heap.size g2 s wy) := HQ2.out.row HCk.out (HQ2.out.p.not_row HX.out)
     have HBy : Hid (Below w.heap.size w wy) := HCk.out.below HB6.out HB6.out.size (fun x _ e => Nat.le_trans HXB.out (HX.out.lt e).1)
     obtain ⟨b2, off2, cap2, a2, cap2', e1, -, hcell, hr⟩ := (HL.out.kept HBy.out).cellAt hin1
     simp only [Value.slice.injEq, Option.some.injEq, Addr.mk.injEq, and_true, true_and] at e1
     obtain ⟨⟨rfl, rfl⟩, rfl⟩ := e1
     rw [HLS.out] at hcell hr
     have HRy : Hid (Rd wy (.slice a2 li.length cap2') li) := hr
     clear hr HCk HOk HQ1 HQ2 HX HB6 Hn' hkn HB HR
     go_wp2_with fail
     refine (smixkey_any w.heap.size g2 s _ li (by have := HL5.out; omega) _ HBy.out.size HS2.out HRy.out (HT.out.kept HBy.out)).mono ?_
     rintro e w7 ⟨rfl, hS7, c7⟩
     rw [HS1E.out] at hS7
     replace HS1 : Hid (StP w.heap.size g1 s1 w7) := HS1.out.other HS2.out c7 HN.out
     replace HS2 : Hid (StP w.heap.size g2 s1 w7) := hS7
     have HB7 : Hid (Below w.heap.size w w7) := Chg.gone HBy.out c7 HBy.out.size HG2.out
     clear hS7 c7 HBy HRy hcell
     have hse := opS_seS s1 t HK32.out (by rw [HN0.out]; decide)
     obtain ⟨X, hX⟩ : ∃ X, X = seL s1.c.key (ncL s1.c.n) s1.h t := ⟨_, rfl⟩
     rw [← hX] at hse
     have HXl : Hid (X.length ≤ 516) := (by rw [hX, seL_len]; have := HLn.out; omega : X.length ≤ 516)
     have HSd2 : Hid (Sound (seS s1 t).1) := HSo.out.se t
     obtain ⟨s2, hs2⟩ : ∃ s2, s2 = (⟨s1.ck, s2L (s1.h ++ X), ⟨s1.c.key, s1.c.n + 1⟩⟩ : Sta) := ⟨_, rfl⟩
     rw [← hs2] at hse
     have HSE : Hid (seS s1 t = (s2, X, 0)) := hse.1
     have HOP : Hid (opS s1 X = (s2, t, 0)) := hse.2
     clear hse hX hs2
     go_wp2_with fail
     refine (sseal_any w.heap.size g1 s1 HSo.out.n _ t (by have := HLn.out; omega) (by rw [HSo.out.h]; decide) _ HG1.out HS1.out (HTX.out.kept HB7.out) w rfl HB7.out HT.out HP.out HK.out).mono ?_
     rw [HSE.out]
     rintro e w8 ⟨x, rfl, hXo, hS8, c8⟩
     replace hXo : Ow 5 w7.heap.size x X w8 := hXo
     replace HS2 : Hid (StP w.heap.size g2 s1 w8) := HS2.out.other HS1.out c8 HN.out.symm
     replace HS1 : Hid (StP w.heap.size g1 s2 w8) := hS8
     have HB8 : Hid (Below w.heap.size w w8) := Chg.gone HB7.out c8 HB7.out.size HG1.out
     have HXo : Hid (Ow 5 _ x X w8) := hXo
     rw [HSE.out] at HSd2
     clear hXo hS8 c8 HB7
     go_wp2_with fail
     refine (sopen_any w.heap.size g2 s1 HSo.out.n _ X (by have := HXl.out; omega) (by rw [HSo.out.h]; decide) _ HG2.out HS2.out HXo.out.rd w rfl HB8.out HT.out HP.out HK.out).mono ?_
     rw [HOP.out]
     rintro e w9 ⟨z, rfl, hZ, hS9, c9⟩
     replace hZ : Ow 5 w8.heap.size z t w9 := hZ
     replace HS1 : Hid (StP w.heap.size g1 s2 w9) := HS1.out.other HS2.out c9 HN.out
     replace HS2 : Hid (StP w.heap.size g2 s2 w9) := hS9
     have HB9 : Hid (Below w.heap.size w w9) := Chg.gone HB8.out c9 HB8.out.size HG2.out
     obtain ⟨v1, q1, r1⟩ := HS1.out.rdH
     obtain ⟨v2, q2, r2⟩ := HS2.out.rdH
     have HR1 : Hid (Rd w9 v1 s2.h) := r1
     have HR2 : Hid (Rd w9 v2 s2.h) := r2
     have HZ : Hid (Rd w9 z t) := hZ.rd
     have HTX9 : Hid (Rd w9 _ t) := HTX.out.kept HB9.out
     clear hZ hS9 c9 HB8 HXo r1 r2
     generalize s2.h = H at HR1 HR2
     go_wp2_with fail
     refine wpG_begin (by kernel_rfl) ?_
     refine wpG_t (i := 0) (oi := ⟨some 93, .move (.tmp 14), 30, "law.go:166", #[], none⟩) (v := ?_) ?_ ?_
     rotate_left
     ·intro W hW; go_simp <;> with_reducible rfl
     try simp only [Act.put, putA, putB, putC]
     refine wpG_t (i := 1) (oi := ⟨some 94, .binOp .neq 30 (.tmp 93) (.const (.int .i64 0)) 30, 4, "law.go:166", #[⟨0, .data⟩], none⟩) (v := ?_) ?_ ?_
     rotate_left
     ·intro W hW; go_simp <;> with_reducible rfl
     try simp only [Act.put, putA, putB, putC]
     refine wpG_t (i := 2) (oi := ⟨some 95, .move (.tmp 94), 4, "law.go:166", #[⟨1, .data⟩], none⟩) (v := ?_) ?_ ?_
     rotate_left
     ·intro W hW; go_simp <;> with_reducible rfl
     try simp only [Act.put, putA, putB, putC]
     refine wpG_t (i := 3) (oi := ⟨some 96, .move (.tmp 16), 30, "law.go:166", #[⟨2, .guard⟩], some (2, false)⟩) (v := ?_) ?_ ?_
     rotate_left
     ·intro W hW; go_simp <;> with_reducible rfl
     try simp only [Act.put, putA, putB, putC]
     refine wpG_t (i := 4) (oi := ⟨some 97, .binOp .neq 30 (.tmp 96) (.const (.int .i64 0)) 30, 4, "law.go:166", #[⟨3, .data⟩, ⟨2, .guard⟩], some (2, false)⟩) (v := ?_) ?_ ?_
     rotate_left
     ·intro W hW; go_simp <;> with_reducible rfl
     try simp only [Act.put, putA, putB, putC]
     refine wpG_t (i := 5) (oi := ⟨some 98, .pick (.tmp 95) (.const (.bool true)) (.tmp 97), 4, "law.go:166", #[⟨2, .data⟩, ⟨4, .data⟩], none⟩) (v := ?_) ?_ ?_
     rotate_left
     ·intro W hW; go_simp <;> with_reducible rfl
     try simp only [Act.put, putA, putB, putC]
     refine wpG_t (i := 6) (oi := ⟨some 99, .move (.tmp 98), 4, "law.go:166", #[⟨5, .data⟩, ⟨2, .chain⟩], none⟩) (v := ?_) ?_ ?_
     rotate_left
     ·intro W hW; go_simp <;> with_reducible rfl
     try simp only [Act.put, putA, putB, putC]
     refine wpG_t (i := 7) (oi := ⟨some 100, .move (.tmp 15), 22, "law.go:166", #[⟨6, .guard⟩], some (6, false)⟩) (v := ?_) ?_ ?_
     rotate_left
     ·intro W hW; go_simp <;> with_reducible rfl
     try simp only [Act.put, putA, putB, putC]
     refine wpG_t (i := 8) (oi := ⟨some 101, .convert 22 9 (.tmp 100), 9, "law.go:166", #[⟨7, .data⟩, ⟨6, .guard⟩], some (6, false)⟩) (v := ?_) ?_ ?_
     rotate_left
     ·intro W hW; have hcv := convS (HZ.out.drew.kept hW); go_simp <;> with_reducible rfl
     try simp only [Act.put, putA, putB, putC]
     refine wpG_t (i := 9) (oi := ⟨some 102, .move (.tmp 2), 22, "law.go:166", #[⟨6, .guard⟩], some (6, false)⟩) (v := ?_) ?_ ?_
     rotate_left
     ·intro W hW; go_simp <;> with_reducible rfl
     try simp only [Act.put, putA, putB, putC]
     refine wpG_t (i := 10) (oi := ⟨some 103, .convert 22 9 (.tmp 102), 9, "law.go:166", #[⟨9, .data⟩, ⟨6, .guard⟩], some (6, false)⟩) (v := ?_) ?_ ?_
     rotate_left
     ·intro W hW; have hcv := convS (HTX9.out.drew.kept hW); go_simp <;> with_reducible rfl
     try simp only [Act.put, putA, putB, putC]
     refine wpG_t (i := 11) (oi := ⟨some 104, .binOp .neq 9 (.tmp 101) (.tmp 103) 9, 4, "law.go:166", #[⟨8, .data⟩, ⟨10, .data⟩, ⟨6, .guard⟩], some (6, false)⟩) (v := ?_) ?_ ?_
     rotate_left
     ·intro W hW; go_simp <;> with_reducible rfl
     try simp only [Act.put, putA, putB, putC]
     refine wpG_t (i := 12) (oi := ⟨some 105, .pick (.tmp 99) (.const (.bool true)) (.tmp 104), 4, "law.go:166", #[⟨6, .data⟩, ⟨11, .data⟩], none⟩) (v := ?_) ?_ ?_
     rotate_left
     ·intro W hW; go_simp <;> with_reducible rfl
     try simp only [Act.put, putA, putB, putC]
     refine wpG_t (i := 13) (oi := ⟨some 106, .move (.tmp 105), 4, "law.go:166", #[⟨12, .data⟩, ⟨6, .chain⟩], none⟩) (v := ?_) ?_ ?_
     rotate_left
     ·intro W hW; go_simp <;> with_reducible rfl
     try simp only [Act.put, putA, putB, putC]
     refine wpG_t (i := 14) (oi := ⟨some 107, .move (.tmp 8), 36, "law.go:166", #[⟨13, .guard⟩], some (13, false)⟩) (v := ?_) ?_ ?_
     rotate_left
     ·intro W hW; go_simp <;> with_reducible rfl
     try simp only [Act.put, putA, putB, putC]
     refine wpG_t (i := 15) (oi := ⟨some 108, .nilCheck (.tmp 107), 0, "law.go:166", #[⟨14, .data⟩, ⟨13, .guard⟩], some (13, false)⟩) (v := ?_) ?_ ?_
     rotate_left
     ·intro W hW; go_simp <;> with_reducible rfl
     try simp only [Act.put, putA, putB, putC]
     refine wpG_t (i := 16) (oi := ⟨some 109, .fieldAddr 45 (.tmp 108) 1, 0, "law.go:166", #[⟨15, .data⟩, ⟨13, .guard⟩], some (13, false)⟩) (v := ?_) ?_ ?_
     rotate_left
     ·intro W hW; go_simp <;> with_reducible rfl
     try simp only [Act.put, putA, putB, putC]
     refine wpG_t (i := 17) (oi := ⟨some 110, .load 22 (.tmp 109), 22, "law.go:166", #[⟨16, .data⟩, ⟨13, .guard⟩], some (13, false)⟩) (v := ?_) ?_ ?_
     rotate_left
     ·intro W hW; have hcW := cellS q1 hW; go_simp <;> with_reducible rfl
     try simp only [Act.put, putA, putB, putC]
     refine wpG_t (i := 18) (oi := ⟨some 111, .convert 22 9 (.tmp 110), 9, "law.go:166", #[⟨17, .data⟩, ⟨13, .guard⟩], some (13, false)⟩) (v := ?_) ?_ ?_
     rotate_left
     ·intro W hW; have hcv := convS (HR1.out.drew.kept hW); go_simp <;> with_reducible rfl
     try simp only [Act.put, putA, putB, putC]
     refine wpG_t (i := 19) (oi := ⟨some 112, .move (.tmp 9), 36, "law.go:166", #[⟨13, .guard⟩], some (13, false)⟩) (v := ?_) ?_ ?_
     rotate_left
     ·intro W hW; go_simp <;> with_reducible rfl
     try simp only [Act.put, putA, putB, putC]
     refine wpG_t (i := 20) (oi := ⟨some 113, .nilCheck (.tmp 112), 0, "law.go:166", #[⟨19, .data⟩, ⟨13, .guard⟩], some (13, false)⟩) (v := ?_) ?_ ?_
     rotate_left
     ·intro W hW; go_simp <;> with_reducible rfl
     try simp only [Act.put, putA, putB, putC]
     refine wpG_t (i := 21) (oi := ⟨some 114, .fieldAddr 45 (.tmp 113) 1, 0, "law.go:166", #[⟨20, .data⟩, ⟨13, .guard⟩], some (13, false)⟩) (v := ?_) ?_ ?_
     rotate_left
     ·intro W hW; go_simp <;> with_reducible rfl
     try simp only [Act.put, putA, putB, putC]
     refine wpG_t (i := 22) (oi := ⟨some 115, .load 22 (.tmp 114), 22, "law.go:166", #[⟨21, .data⟩, ⟨13, .guard⟩], some (13, false)⟩) (v := ?_) ?_ ?_
     rotate_left
     ·intro W hW; have hcW := cellS q2 hW; go_simp <;> with_reducible rfl
     try simp only [Act.put, putA, putB, putC]
     refine wpG_t (i := 23) (oi := ⟨some 116, .convert 22 9 (.tmp 115), 9, "law.go:166", #[⟨22, .data⟩, ⟨13, .guard⟩], some (13, false)⟩) (v := ?_) ?_ ?_
     rotate_left
     ·intro W hW; have hcv := convS (HR2.out.drew.kept hW); go_simp <;> with_reducible rfl
     try simp only [Act.put, putA, putB, putC]
     refine wpG_t (i := 24) (oi := ⟨some 117, .binOp .neq 9 (.tmp 111) (.tmp 116) 9, 4, "law.go:166", #[⟨18, .data⟩, ⟨23, .data⟩, ⟨13, .guard⟩], some (13, false)⟩) (v := ?_) ?_ ?_
     rotate_left
     ·intro W hW; go_simp <;> with_reducible rfl
     try simp only [Act.put, putA, putB, putC]
     refine wpG_t (i := 25) (oi := ⟨some 118, .pick (.tmp 106) (.const (.bool true)) (.tmp 117), 4, "law.go:166", #[⟨13, .data⟩, ⟨24, .data⟩], none⟩) (v := ?_) ?_ ?_
     rotate_left
     ·intro W hW; go_simp <;> with_reducible rfl
     try simp only [Act.put, putA, putB, putC]
     refine wpG_done (by kernel_rfl) ?_
     go_wp2
     go_roundw
     case rel => exact ⟨i + 1, s2, by omega, by go_num, HSd2.out, HS1.out.kept (Below.refl _ _).drew, HS2.out.kept (Below.refl _ _).drew, HB9.out.drew⟩
     case measure => simp [intOf]; omega
  ·have hcases : ¬ i < vs.length ∨ (i < vs.length ∧ ¬ i < 6) := by omega
   clear hin
   rcases hcases with hc1 | ⟨hc1, hc2⟩
   all_goals
    try have d4 : decide ((i : Int) < 6) = false := decide_eq_false (by omega)
    go_wp2_with fail
    refine (ssplit_any w.heap.size g1 s _ HS1.out (HT.out.kept HB.out)).mono ?_
    have HE1 : Hid ((spS s).1.key = (spS s).1.key) := rfl
    rintro e w9 ⟨vp, vq, rfl, hp, hq, b9⟩
    obtain ⟨K1, hK1⟩ : ∃ K, K = (spS s).1.key := ⟨_, rfl⟩
    obtain ⟨K2, hK2⟩ : ∃ K, K = (spS s).2.key := ⟨_, rfl⟩
    rw [← hK1] at hp
    rw [← hK2] at hq
    have HK1 : Hid (K1 = (spS s).1.key) := hK1
    have HK2 : Hid (K2 = (spS s).2.key) := hK2
    obtain ⟨ap, cp, rfl, -⟩ := id hp.rd
    obtain ⟨aq, cq, rfl, -⟩ := id hq.rd
    have HP1 : Hid (Ow 5 _ (.slice ap K1.length cp) K1 w9) := hp
    have HQ1 : Hid (Ow 5 _ (.slice aq K2.length cq) K2 w9) := hq
    replace HB : Hid (Below w.heap.size w w9) := stepB HB.out b9
    replace HS2 : Hid (StP w.heap.size g2 s w9) := HS2.out.kept b9
    clear hp hq b9 HS1 HE1 hK1 hK2
    go_wp2_with (refine wpList_alloc_blk rfl 27 rfl (ckD (.slice none 0 0) 0) (alloc_kc _) ?_)
    intro wa rp ba sa
    go_wp2_with (refine wpList_alloc_blk rfl 27 rfl (ckD (.slice none 0 0) 0) (alloc_kc _) ?_)
    intro wb rq bb sb
    replace rp := rp.kept bb
    have na : w9.heap.size < wa.heap.size := by have := sa.out; omega
    have bab := stepB ba bb
    clear sa sb
    go_wp2_with (first | (refine wpList_store_part rfl 27 _ _ rfl rfl (ckD (.slice ap K1.length cp) 0) rfl [] (ckD (.slice none 0 0) 0) [] (ckD (.slice ap K1.length cp) 0) rp (wholeS _) (wholeS _) rfl rfl (info_kc (.slice none 0 0) 0) (ckD_all _ _ _ _) ?_; intro wc rc hwc; have rq6 := rq.wrote hwc (by omega)) | (refine wpList_store_part rfl 27 _ _ rfl rfl (ckD (.slice aq K2.length cq) 0) rfl [] (ckD (.slice none 0 0) 0) [] (ckD (.slice aq K2.length cq) 0) rq6 (wholeS _) (wholeS _) rfl rfl (info_kc (.slice none 0 0) 0) (ckD_all _ _ _ _) ?_; intro wd rd hwd))
    have rcd := rc.wrote hwd (by omega)
    have bwd : Below w9.heap.size w9 wd := hwd.below _ _ (by omega) (hwc.below _ _ (Nat.le_refl _) bab)
    have HB2 : Hid (Below w.heap.size w wd) := stepB HB.out bwd
    replace HS2 : Hid (StP w.heap.size g2 s wd) := HS2.out.kept bwd
    replace HP1 : Hid (Ow 5 _ (.slice ap K1.length cp) K1 wd) := HP1.out.kept bwd
    replace HQ1 : Hid (Ow 5 _ (.slice aq K2.length cq) K2 wd) := HQ1.out.kept bwd
    have HR1 : Hid (BlkAt w9.heap.size 27 _ wd) := rcd
    have HR2 : Hid (BlkAt wa.heap.size 27 _ wd) := rd
    clear rp rq bab ba bb na rc hwc rq6 rd hwd rcd bwd HB
    refine (ssplit_any w.heap.size g2 s _ HS2.out (HT.out.kept HB2.out)).mono ?_
    rw [← HK1.out, ← HK2.out]
    rintro e x9 ⟨vr, vs', rfl, hr, hs, b9⟩
    obtain ⟨ar, cr, rfl, -⟩ := id hr.rd
    obtain ⟨as', cs, rfl, -⟩ := id hs.rd
    have HP3 : Hid (Ow 5 _ (.slice ar K1.length cr) K1 x9) := hr
    have HQ3 : Hid (Ow 5 _ (.slice as' K2.length cs) K2 x9) := hs
    replace HB2 : Hid (Below w.heap.size w x9) := stepB HB2.out b9
    replace HP1 : Hid (Ow 5 _ (.slice ap K1.length cp) K1 x9) := HP1.out.kept b9
    replace HQ1 : Hid (Ow 5 _ (.slice aq K2.length cq) K2 x9) := HQ1.out.kept b9
    replace HR1 : Hid (BlkAt w9.heap.size 27 (ckD (.slice ap K1.length cp) 0) x9) := HR1.out.kept b9
    replace HR2 : Hid (BlkAt wa.heap.size 27 (ckD (.slice aq K2.length cq) 0) x9) := HR2.out.kept b9
    clear hr hs b9 HS2 HK1 HK2
    go_wp2_with (refine wpList_alloc_blk rfl 27 rfl (ckD (.slice none 0 0) 0) (alloc_kc _) ?_)
    intro xa rp ba sa
    go_wp2_with (refine wpList_alloc_blk rfl 27 rfl (ckD (.slice none 0 0) 0) (alloc_kc _) ?_)
    intro xb rq bb sb
    replace rp := rp.kept bb
    have na : x9.heap.size < xa.heap.size := by have := sa.out; omega
    have bab := stepB ba bb
    clear sa sb
    go_wp2_with (first | (refine wpList_store_part rfl 27 _ _ rfl rfl (ckD (.slice ar K1.length cr) 0) rfl [] (ckD (.slice none 0 0) 0) [] (ckD (.slice ar K1.length cr) 0) rp (wholeS _) (wholeS _) rfl rfl (info_kc (.slice none 0 0) 0) (ckD_all _ _ _ _) ?_; intro xc rc hwc; have rq6 := rq.wrote hwc (by omega)) | (refine wpList_store_part rfl 27 _ _ rfl rfl (ckD (.slice as' K2.length cs) 0) rfl [] (ckD (.slice none 0 0) 0) [] (ckD (.slice as' K2.length cs) 0) rq6 (wholeS _) (wholeS _) rfl rfl (info_kc (.slice none 0 0) 0) (ckD_all _ _ _ _) ?_; intro xd rd hwd; have rcd := rc.wrote hwd (by omega); have bxd : Below x9.heap.size x9 xd := hwd.below _ _ (by omega) (hwc.below _ _ (Nat.le_refl _) bab); have HBx : Hid (Below w.heap.size w xd) := stepB HB2.out bxd; have m1 : xd.cell? ⟨w9.heap.size, 0, none⟩ = some (.slice ap K1.length cp) := BlkAt.cell (BlkAt.kept HR1.out bxd) 0; have m2 : xd.cell? ⟨wa.heap.size, 0, none⟩ = some (.slice aq K2.length cq) := BlkAt.cell (BlkAt.kept HR2.out bxd) 0; have m3 : xd.cell? ⟨x9.heap.size, 0, none⟩ = some (.slice ar K1.length cr) := rcd.cell 0; have m4 : xd.cell? ⟨xa.heap.size, 0, none⟩ = some (.slice as' K2.length cs) := rd.cell 0; have n1 := convS (HP1.out.kept bxd).rd; have n2 := convS (HQ1.out.kept bxd).rd; have n3 := convS (HP3.out.kept bxd).rd; have n4 := convS (HQ3.out.kept bxd).rd; clear rcd rd hwd hwc rc rq6 bxd rp rq ba bb bab na))
    go_ret
    exact ⟨by simp, HBx.out⟩
end Go.Proofs.YtdlmmcilembjgaaDoor
