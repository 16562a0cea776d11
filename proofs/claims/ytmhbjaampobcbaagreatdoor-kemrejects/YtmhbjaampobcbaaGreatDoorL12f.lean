/- Polynomials drawn from a seed: contracts of package sample, sixth part. -/
import Derived.Test.YtmhbjaampobcbaaGreatDoorL12c
import Derived.Test.YtmhbjaampobcbaaGreatDoorSp
import Derived.Test.YtmhbjaampobcbaaGreatDoorWords
import Derived.Shelf.Abstract
namespace Go.Proofs.YtmhbjaampobcbaaGreatDoor
open Go.ChangeShapes Go.WideShapes Go.ChangeAt Go.RowKit
set_option linter.unusedSimpArgs false
set_option linter.unusedVariables false

theorem gI_unG12 (l : List Nat) (n x : Nat) (h : n = l.length) : (gI (unG l)).set n ((x : Nat) : Int) = gI (unG (l ++ [x])) := by
 subst h
 rw [gI_set]
 exact gI_congr fun k _ => unG_put l x k
theorem entersS {f : FuncId} {fn : Func} {c : Code} (hf : Tryz.prog.funcs[f]? = some fn) (hn : (fn.name == "runtime.NumGoroutine") = false) (hb : fn.body = some c) (args : Array Value) (w : World) : (callFunc f args).run Tryz.prog w = .ok (.enter f args) w := enters_of hf hn hb args w

set_option maxRecDepth 100000 in
set_option maxHeartbeats 8000000 in
theorem chosen_any (K : FuncId) (gx : Nat) (f : Nat → Nat) (w : World) (hE : ∀ (args : Array Value) (w : World), (callFunc K args).run Tryz.prog w = .ok (.enter K args) w)
  (hK : ∀ (p : Nat) (W : World), XP gx f 168 p W → Tabs W → Calls Tryz.prog K #[.pointer (some ⟨gx, 0, none⟩), .int .i64 3] W fun e w' => ∃ v, e = .returned v ∧ w'.ownsRow W.heap.size 5 1 v (pcL f 168 p 3).length ((pcL f 168 p 3).map bv) ∧ XP gx f 168 (p + 3) w' ∧ Chg (fun b => b = gx) W w' ∧ Tabs w')
  (hX : XP gx f 168 0 w) (hT : Tabs w) (hg : 2 < gx) :
  Calls Tryz.prog 129 #[.func (.func K) #[.pointer (some ⟨gx, 0, none⟩)] #[]] w fun e w' => e = .returned (poV (unF (smF f 168))) ∧ Chg (fun b => b = gx) w w' := by
 have HK : Hid _ := hK
 have hgl := hX.lt
 obtain ⟨S, hS⟩ : ∃ S : Nat → UInt8, S = smF f 168 := ⟨_, rfl⟩
 have HS : Hid (S = smF f 168) := hS
 clear hK hS
 have hX0 : XP gx f 168 (3 * 0) w := hX
 clear hX
 go_enter Tryz.func129, Tryz.ntmps129
 go_wp2_with (refine wpList_alloc_row (k := .i64) rfl 58 rfl (gI fun _ => 0) (alloc_poS _) (gI_ne _) (poMax _) ?_)
 intro w1 rz b1 s1
 rw [gI_length] at rz
 go_wp2_with (refine wpList_alloc_row (k := .i64) rfl 58 rfl (gI fun _ => 0) (alloc_poS _) (gI_ne _) (poMax _) ?_)
 intro w2 ro b2 s2
 rw [gI_length] at ro
 replace rz := rz.kept b2
 have hbw := stepB b1 b2
 have n1 : w.heap.size < w1.heap.size := by have := s1.out; omega
 have hX2 := hX0.kept hbw
 have hT2 := hT.kept hbw
 have hc2 : Chg (fun b => b = gx) w w2 := Chg.of_below hbw
 rw [← unG_nil] at ro
 clear b1 b2 s1 s2 hX0 hT hbw
 go_wp2
 go_loopw [4, 5] (fun nv gv wx => ∃ g n : Nat, g ≤ 1344 ∧ n ≤ 256 ∧ gv = .int .i64 (g : Int) ∧ nv = .int .i64 (n : Int) ∧ Hid (n = (unA S (2 * g)).length) ∧ XP gx f 168 (3 * g) wx ∧ Tabs wx ∧ RowAt .i64 58 w.heap.size 256 (gI fun _ => 0) wx ∧ RowAt .i64 58 w1.heap.size 256 (gI (unG (unA S (2 * g)))) wx ∧ Chg (fun b => b = gx) w wx) (fun _ gv _ => 1344 - (intOf gv).toNat)
 case atStart => exact ⟨0, 0, by omega, by omega, rfl, rfl, (by show _ = _; rfl), hX2, hT2, rz, ro, hc2⟩
 case round =>
  obtain ⟨g, n, hgr, hn, rfl, rfl, HN, hX, hT, rz', ro', hcx⟩ := hrel
  clear hX2 hT2 rz ro hc2
  by_cases hgo : g < 1344 ∧ n < 256
  ·obtain ⟨hg1, hn1⟩ := hgo
   have hd1 : decide ((g : Int) < 1344) = true := decide_eq_true (by omega)
   have hd2 : decide ((n : Int) < 256) = true := decide_eq_true (by omega)
   have hgI : (g : Int) < 1344 := by omega
   have hnI : (n : Int) < 256 := by omega
   have HBt : Hid (∀ i, i < 2 → bs (btY (pcL f 168 (3 * g) 3)) (12 * i) 12 = cdN S (2 * g + i)) := by
    show ∀ i, _
    intro i hi
    rw [HS.out]
    exact two_of_three (smF f 168) g i hi
   have hsz := hcx.size
   have HLo : Hid (w1.heap.size < wr.heap.size) := ro'.lt
   go_wp2_with fail
   refine (HK.out (3 * g) _ hX hT).mono ?_
   rintro e w3 ⟨vb, rfl, hown, hX3, hC3, hT3⟩
   replace rz' := rz'.chg hC3 (by omega)
   replace ro' := ro'.chg hC3 (by omega)
   obtain ⟨Bs, hBs⟩ : ∃ B : Nat, B = wr.heap.size := ⟨_, rfl⟩
   rw [← hBs] at hown
   have hB1 : w1.heap.size < Bs ∧ w.heap.size < Bs := by rw [hBs]; exact ⟨HLo.out, by have := HLo.out; omega⟩
   replace hcx := hcx.trans hC3
   obtain ⟨bl, hbl⟩ : ∃ bl : List UInt8, bl = pcL f 168 (3 * g) 3 := ⟨_, rfl⟩
   have HLb : Hid (bl.length = 3) := by show _ = _; rw [hbl, pcL_length]
   rw [← hbl] at hown HBt
   have hoc : Hid (∃ ab cb, vb = .slice ab bl.length cb) := by
    obtain ⟨ab, cb, e, _⟩ := Rd.of_row hown
    exact ⟨ab, cb, e⟩
   obtain ⟨ab, cb, rfl⟩ := hoc.out
   rw [HLb.out] at hown ⊢
   have hX4 : XP gx f 168 (3 * (g + 1)) w3 := hX3
   have hN0 : Hid (n = (unA S (2 * g + 0)).length) := HN
   have ro0 : RowAt .i64 58 w1.heap.size 256 (gI (unG (unA S (2 * g + 0)))) w3 := ro'
   clear hBs hbl hoc hX hT hC3 hX3 HN ro' hd1 hd2 hgI hnI hn1 hsz HLo
   rename World => wv
   go_wp2
   go_loopw [4, 19] (fun nv iv wx => ∃ i n : Nat, i ≤ 2 ∧ n ≤ 256 ∧ iv = .int .i64 (i : Int) ∧ nv = .int .i64 (n : Int) ∧ Hid (n = (unA S (2 * g + i)).length) ∧ XP gx f 168 (3 * (g + 1)) wx ∧ Tabs wx ∧ wx.ownsRow Bs 5 1 (.slice ab 3 cb) 3 (bl.map bv) ∧ RowAt .i64 58 w.heap.size 256 (gI fun _ => 0) wx ∧ RowAt .i64 58 w1.heap.size 256 (gI (unG (unA S (2 * g + i)))) wx ∧ Chg (fun b => b = gx) w wx) (fun _ iv _ => 2 - (intOf iv).toNat)
   case atStart => exact ⟨0, n, by omega, hn, rfl, rfl, hN0, hX4, hT3, hown, rz', ro0, hcx⟩
   case round =>
    obtain ⟨i, m, hi, hm, rfl, rfl, HN, hX, hT, hO, rz2, ro2, hc2⟩ := hrel
    clear hN0 hX4 hT3 hown rz' ro0 hcx
    by_cases hlt : i < 2
    ·have hd : decide ((i : Int) < 2) = true := decide_eq_true (by omega)
     have hiI : (i : Int) < 2 := by omega
     obtain ⟨t, ht⟩ : ∃ t : Nat, t = 12 * i := ⟨_, rfl⟩
     have xt : IntKind.i64.wrap (12 * (i : Int)) = (t : Int) := by rw [IntWalk.i64_in _ (by omega)]; omega
     have HR : Hid (Rd wr (.slice ab 3 cb) bl) := by
      have := Rd.of_row (l := bl) (by rw [HLb.out]; exact hO)
      exact this
     have HE : Hid (bs (btY bl) t 12 = cdN S (2 * g + i)) := by show _ = _; rw [ht]; exact HBt.out i hlt
     have htb : t ≤ 12 := by omega
     clear ht
     go_wp2_with fail
     refine (number_any _ bl t 12 _ _ rfl rfl (by omega) (by rw [HLb.out]; omega) (by omega) _ HR.out).mono ?_
     rintro e w4 ⟨rfl, rfl⟩
     rw [HE.out]
     obtain ⟨X, hXe⟩ : ∃ X : Nat, X = cdN S (2 * g + i) := ⟨_, rfl⟩
     rw [← hXe]
     have HX : Hid (cdN S (2 * g + i) = X) := hXe.symm
     clear hXe HE HR
     by_cases hx : X < 3329 ∧ m < 256
     ·obtain ⟨hx1, hx2⟩ := hx
      have dx : decide ((X : Int) < 3329) = true := decide_eq_true (by omega)
      have dxI : (X : Int) < 3329 := by omega
      have dm : decide ((m : Int) < 256) = true := decide_eq_true (by omega)
      have dmI : (m : Int) < 256 := by omega
      have e1 : unA S (2 * g + (i + 1)) = unA S (2 * g + i) ++ [X] := by
       rw [← HX.out]
       exact unA_take (c := 2 * g + i) (by rw [HX.out]; exact hx1) (by rw [← HN.out]; exact hx2)
      have HPut : Hid ((gI (unG (unA S (2 * g + i)))).set m ((X : Nat) : Int) = gI (unG (unA S (2 * g + (i + 1))))) := by
       show _ = _
       rw [gI_unG12 _ _ _ HN.out, e1]
      have HN1 : Hid (m + 1 = (unA S (2 * g + (i + 1))).length) := by
       show _ = _
       rw [e1, List.length_append, List.length_singleton, ← HN.out]
      have HML : Hid (m < 256) := hx2
      clear e1
      go_wp2_with (refine wpList_store_int rfl _ _ rfl rfl (X : Int) rfl ro2 (by rw [gI_length]; exact HML.out) ?_)
      intro ws rs hws
      rw [HPut.out] at rs
      have hch := Chg.of_wrote hws
      have hX5 := hX.chg hch (by omega)
      have hT5 := hT.chg hch (fun k hk h => by omega)
      have hO5 := own_past hO hch (by omega)
      have rz5 := rz2.wrote hws (by omega)
      have hc5 := hc2.step hch (fun k hk h => by omega)
      clear hX hT hO rz2 ro2 hc2 hws HPut hch
      go_wp2
      go_roundw
      case rel => exact ⟨i + 1, m + 1, by omega, by omega, by go_num, by go_num, HN1, hX5, hT5, hO5, rz5, rs, hc5⟩
      case measure => simp [intOf] <;> omega
     ·have hcy : (decide ((X : Int) < 3329) = false ∧ (3329 : Int) ≤ (X : Int)) ∨ (decide ((X : Int) < 3329) = true ∧ (X : Int) < 3329 ∧ decide ((m : Int) < 256) = false ∧ (256 : Int) ≤ (m : Int)) := by
       by_cases h1 : X < 3329
       ·exact .inr ⟨decide_eq_true (by omega), by omega, decide_eq_false (by omega), by omega⟩
       ·exact .inl ⟨decide_eq_false (by omega), by omega⟩
      have e1 : unA S (2 * g + (i + 1)) = unA S (2 * g + i) := unA_pass (c := 2 * g + i) (by rw [HX.out, ← HN.out]; exact hx)
      have HN1 : Hid (m = (unA S (2 * g + (i + 1))).length) := by
       show _ = _
       rw [e1, ← HN.out]
      rw [← e1] at ro2
      clear e1 hx
      rcases hcy with ⟨g1, g2⟩ | ⟨g1, g2, g3, g4⟩
      all_goals
       go_wp2
       go_roundw
       case rel => exact ⟨i + 1, m, by omega, hm, by go_num, rfl, HN1, hX, hT, hO, rz2, ro2, hc2⟩
       case measure => simp [intOf] <;> omega
    ·have hie : i = 2 := by omega
     have hd : decide ((i : Int) < 2) = false := decide_eq_false (by omega)
     have hiI : (2 : Int) ≤ (i : Int) := by omega
     have e2 : unA S (2 * g + i) = unA S (2 * (g + 1)) := by rw [show 2 * g + i = 2 * (g + 1) by omega]
     rw [e2] at ro2
     have HN1 : Hid (m = (unA S (2 * (g + 1))).length) := by show _ = _; rw [← e2]; exact HN.out
     clear hie e2
     go_wp2
     go_roundw
     case rel => exact ⟨g + 1, m, by omega, hm, by go_num, rfl, HN1, hX, hT, rz2, ro2, hc2⟩
     case measure => simp [intOf] <;> omega
  ·have hcond : (decide ((g : Int) < 1344) = false ∧ (1344 : Int) ≤ (g : Int)) ∨ (decide ((g : Int) < 1344) = true ∧ (g : Int) < 1344 ∧ decide ((n : Int) < 256) = false ∧ (256 : Int) ≤ (n : Int)) := by
    by_cases h1 : g < 1344
    ·exact .inr ⟨decide_eq_true (by omega), by omega, decide_eq_false (by omega), by omega⟩
    ·exact .inl ⟨decide_eq_false (by omega), by omega⟩
   have HE : Hid (gI (unG (unA S (2 * g))) = gI (fzF (unF S))) := by
    show _ = _
    refine un_done (by omega) ?_
    by_cases h1 : g < 1344
    ·right; rw [← HN.out]; omega
    ·left; omega
   rw [HE.out] at ro'
   clear hgo
   rcases hcond with ⟨d1, d2⟩ | ⟨d1, d2, d3, d4⟩
   all_goals
    go_wp2_with (first | refine wpList_load_row rfl 58 _ rfl rfl ro' _ Tryz.underlying58 rfl (poInfoS _) ?_ | (refine wpList_store_row rfl 58 _ _ rfl (gI (fzF (unF S))) rfl rfl rz' (by rw [gI_length, gI_length]) (poInfoS _) ?_; intro w7 r7 hw7))
    refine bodyPost_row (k := .i64) rfl rfl rfl r7 Tryz.underlying58 rfl (poInfoS _) ?_
    exact ⟨by rw [HS.out], hcx.step (Chg.of_wrote hw7) (fun k hk h => by omega)⟩
end Go.Proofs.YtmhbjaampobcbaaGreatDoor
