/- That the program is awake: a text there and back, and another tag. -/
import Derived.Test.YtenljbljaffehaaDoorA09d
import Derived.Test.YtenljbljaffehaaDoorBase
import Derived.Lib.SlBytesConst
namespace Go.Proofs.YtenljbljaffehaaDoor
open Go.ChangeShapes Go.WideShapes Go.ChangeAt Go.RowKit
set_option linter.unusedSimpArgs false
set_option linter.unusedVariables false

/-- A row of its own stays what it is where an older block is written. -/
theorem own_old {W : World} {base g0 : Nat} {e : TypeId} {v : Value} {n : Nat} {xs : List Value} (h : W.ownsRow base e 1 v n xs) (h0 : g0 < base) (j : Nat) (u : Value) : (W.setCell ⟨g0, j, none⟩ u).ownsRow base e 1 v n xs := by
  refine own_chg h (Chg.of_wrote (Wrote.set g0 j W u)) fun g e1 e2 => ?_
  have := (h.lt g e1).1
  omega
theorem set_tag (c g : List UInt8) (j : Nat) (u : UInt8) : (c ++ g).set (c.length + j) u = c ++ g.set j u := by
  rw [List.set_append_right _ _ (by omega), Nat.add_sub_cancel_left]
theorem get_tag (c g : List UInt8) (j : Nat) : (c ++ g).getD (c.length + j) 0 = g.getD j 0 := by
  rw [List.getD_eq_getElem?_getD, List.getElem?_append_right (by omega), Nat.add_sub_cancel_left, ← List.getD_eq_getElem?_getD]
theorem set_other (g : List UInt8) (j : Nat) (hj : j < g.length) (u : UInt8) (hu : u ≠ 0) : g ≠ g.set j (g.getD j 0 ^^^ u) := by
  intro h
  have h1 : g.getD j 0 = (g.set j (g.getD j 0 ^^^ u)).getD j 0 := by rw [← h]
  rw [show (g.set j (g.getD j 0 ^^^ u)).getD j 0 = g.getD j 0 ^^^ u by simp [hj]] at h1
  have h2 : g.getD j 0 ^^^ (g.getD j 0 ^^^ u) = 0 := by rw [← h1]; exact UInt8.xor_self
  rw [← UInt8.xor_assoc, UInt8.xor_self, UInt8.zero_xor] at h2
  exact hu h2

def adL : List UInt8 := [97, 100]
def teL : List UInt8 := [116, 101, 120, 116]
/-- A constant string's bytes: a new row, marked behind its end. -/
theorem Rd.marked {w : World} {e : TypeId} {fr : Nat × Nat} (l : List UInt8) {cs : Array Value} {n b : Nat} (h : cs = (l.map bv).toArray) (hn : n = l.length) (hb : b = w.heap.size) (hm : l.length ≤ maxLen) : Rd (w.alloc (.cells cs e fr)) (.slice (some ⟨b, 0, none⟩) n n) l := by
  subst h hn hb
  refine ⟨_, _, rfl, Nat.le_refl _, hm, (fun h => by cases h), .inr ⟨_, 0, rfl, fun i hi => ?_⟩⟩
  have hh : (w.alloc (.cells (l.map bv).toArray e fr)).heap[w.heap.size]? = some (.cells (l.map bv).toArray e fr) := by
    show (w.heap.push _)[w.heap.size]? = _
    simp
  unfold World.cell?
  rw [hh]
  simp [hi, bv]
theorem adL_rd {w : World} {b : Nat} (hb : b = w.heap.size) : Rd (w.alloc (.cells #[.int .u8 97, .int .u8 100] 5 (2, 3))) (.slice (some ⟨b, 0, none⟩) 2 2) adL := Rd.marked adL rfl rfl hb (by simp [adL, maxLen])

set_option maxRecDepth 100000 in
set_option maxHeartbeats 4000000 in
theorem awake_any (w : World) (hp : PlT w) (ht : KpT w) : Calls Tryd.prog 8 #[] w fun e w' => e = .returned (.bool true) ∧ Below w.heap.size w w' := by
  obtain ⟨ti, hti, hz0, hz1, hz2⟩ := info_parts info5
  have HP : Hid (PlT w) := hp
  have HT : Hid (KpT w) := ht
  have kc := fun (w : World) (C : Array Value) (n c : Nat) => Lib.run_convert_bytes_const (P := Tryd.prog) w 22 5 C n c Tryd.underlying22 Tryd.underlying5
  have kc2 : ∀ (w : World) (o : Obj) (C : Array Value) (n c : Nat), (convert 22 22 (.slice (some ⟨w.heap.size + 1, 0, none⟩) n c)).run Tryd.prog ((w.alloc o).alloc (.cells C 5)) = .ok (.slice (some ⟨w.heap.size + 1, 0, none⟩) n c) ((w.alloc o).alloc (.cells C 5 (C.size, C.size + 1))) := fun w o C n c => by
    have := kc (w.alloc o) C n c
    rwa [show (w.alloc o).heap.size = w.heap.size + 1 by simp] at this
  have kc3 : ∀ (w : World) (a : Addr) (u : Value) (C : Array Value) (n c : Nat), (convert 22 22 (.slice (some ⟨w.heap.size, 0, none⟩) n c)).run Tryd.prog ((w.setCell a u).alloc (.cells C 5)) = .ok (.slice (some ⟨w.heap.size, 0, none⟩) n c) ((w.setCell a u).alloc (.cells C 5 (C.size, C.size + 1))) := fun w a u C n c => by
    have := kc (w.setCell a u) C n c
    rwa [show (w.setCell a u).heap.size = w.heap.size by simp] at this
  clear hp ht
  go_enter Tryd.func8, Tryd.ntmps8
  go_wp2_with (at_make; go_must (refine wpList_make_full _ rfl _ _ 22 rfl w.heap.size 5 ti _ 1 Tryd.underlying22 hti hz0 hz1 _ _ _ _ 32 rfl rfl rfl rfl (by rw [hz2]; omega) (by unfold maxLen; omega) (Nat.le_refl _) ?_))
  intro w1 hown hgr
  have hN1 := New.made hown hgr
  have HK : Hid ((List.replicate 32 (0 : UInt8)).length = 32) := by show _ = _; simp
  generalize List.replicate 32 (0 : UInt8) = K at hN1 HK
  clear hown hgr
  go_wp2_with (at_make; go_must (refine wpList_make_full _ rfl _ _ 22 rfl w1.heap.size 5 ti _ 1 Tryd.underlying22 hti hz0 hz1 _ _ _ _ 12 rfl rfl rfl rfl (by rw [hz2]; omega) (by unfold maxLen; omega) (Nat.le_refl _) ?_))
  intro w2 hown hgr
  have hN2 := New.made hown hgr
  have HN : Hid ((List.replicate 12 (0 : UInt8)).length = 12) := by show _ = _; simp
  generalize List.replicate 12 (0 : UInt8) = N at hN2 HN
  have HF : Hid (fitN K N) := ⟨HK.out, HN.out⟩
  have HRK : Hid (Rd w2 (.slice (some ⟨w.heap.size, 0, none⟩) 32 32) K) := hN1.rd.kept hN2.2
  have HRN : Hid (Rd w2 (.slice (some ⟨w1.heap.size, 0, none⟩) 12 12) N) := hN2.rd
  have HB2 : Hid (Below w.heap.size w w2) := stepB hN1.2 hN2.2
  clear hown hgr hN1 hN2
  obtain ⟨c, g, hX, hc, hg, htag, hback⟩ := seL_parts K N adL teL
  have HX : Hid (seA K N adL teL = (c ++ g, 0)) := by show _ = _; rw [seA_fit HF.out, hX]
  have HC : Hid (c.length = 4) := hc
  have HG : Hid (g.length = 16) := hg
  have HO : Hid (opA K N adL (c ++ g) = (teL, 0)) := by show _ = _; rw [opA_ok HF.out _ _ _ hg htag, hback]
  have HO2 : Hid (opA K N adL (c ++ g.set 15 (g.getD 15 0 ^^^ 1)) = ([], 10)) := opA_bad HF.out _ _ _ (by rw [List.length_set, hg]) (by rw [htag]; exact set_other g 15 (by omega) 1 (by decide))
  have HTG : Hid (tgA K N adL c = (g, 0)) := by show _ = _; rw [tgA_fit HF.out, htag]
  clear hX hc hg htag hback
  have hA3 : Rd ((w2.alloc (.cells #[.int .u8 97, .int .u8 100] 5 (2, 3))).alloc (.cells #[.int .u8 116, .int .u8 101, .int .u8 120, .int .u8 116] 5 (4, 5))) (.slice (some ⟨w2.heap.size, 0, none⟩) 2 2) adL := (adL_rd rfl).kept (growB _)
  have hT3 : Rd ((w2.alloc (.cells #[.int .u8 97, .int .u8 100] 5 (2, 3))).alloc (.cells #[.int .u8 116, .int .u8 101, .int .u8 120, .int .u8 116] 5 (4, 5))) (.slice (some ⟨w2.heap.size + 1, 0, none⟩) 4 4) teL := Rd.marked teL rfl rfl (by simp) (by simp [teL, maxLen])
  have hb3 : Below w2.heap.size w2 ((w2.alloc (.cells #[.int .u8 97, .int .u8 100] 5 (2, 3))).alloc (.cells #[.int .u8 116, .int .u8 101, .int .u8 120, .int .u8 116] 5 (4, 5))) := stepB (growB _) (growB _)
  generalize hw3 : (w2.alloc (.cells #[.int .u8 97, .int .u8 100] 5 (2, 3))).alloc (.cells #[.int .u8 116, .int .u8 101, .int .u8 120, .int .u8 116] 5 (4, 5)) = w3 at hA3 hT3 hb3
  have HW3 : Hid _ := hw3
  clear hw3
  go_wp2_with fail
  rw [HW3.out]
  have hB3 := stepB HB2.out hb3
  refine (aseal_all _ _ _ _ K N adL teL (by simp [adL]) (by simp [teL]) _ (HP.out.kept hB3) (HT.out.kept hB3) (HRK.out.kept hb3) (HRN.out.kept hb3) hA3 hT3).mono ?_
  rintro e w4 ⟨vx, rfl, hNx⟩
  rw [HX.out] at hNx ⊢
  have hlx : (c ++ g).length = 20 := by rw [List.length_append, HC.out, HG.out]
  obtain ⟨gx, cx, rfl, hcx, -, -, -⟩ := hNx.store (j := 0) (by rw [hlx]; decide)
  rw [hlx] at hNx hcx ⊢
  have HNX : Hid (New 5 w3 (.slice (some ⟨gx, 0, none⟩) 20 cx) (c ++ g) w4) := hNx
  have HLX : Hid ((c ++ g).length = 20) := hlx
  have hgx : gx < w4.heap.size := (hNx.1.lt gx rfl).2
  have hmx : cx ≤ maxLen := by obtain ⟨a', c', e, h1, h2, -⟩ := hNx.rd; simp only [Value.slice.injEq] at e; obtain ⟨-, -, rfl⟩ := e; exact h2
  unfold maxLen at hmx
  clear hA3 hT3 HW3 hNx hlx
  go_wp2_with fail
  have hb4 : Below w2.heap.size w2 (w4.alloc (.cells #[.int .u8 97, .int .u8 100] 5 (2, 3))) := stepB (stepB hb3 HNX.out.2) (growB _)
  have hB4 := stepB HB2.out hb4
  refine (aopen_all _ _ _ _ K N adL (c ++ g) (by simp [adL]) (by rw [HLX.out]; decide) _ (HP.out.kept hB4) (HT.out.kept hB4) (HRK.out.kept hb4) (HRN.out.kept hb4) (adL_rd rfl) (HNX.out.rd.kept (growB _))).mono ?_
  rintro e w5 ⟨vy, rfl, hNy⟩
  rw [HO.out] at hNy ⊢
  have hb5 := stepB hb4 hNy.2
  have HNX5 : Hid (New 5 w3 (.slice (some ⟨gx, 0, none⟩) 20 cx) (c ++ g) w5) := (HNX.out.kept (growB _)).kept hNy.2
  have hoy := hNy.1
  have hgy : gx < (w4.alloc (.cells #[.int .u8 97, .int .u8 100] 5 (2, 3))).heap.size := by simp; omega
  generalize (w4.alloc (.cells #[.int .u8 97, .int .u8 100] 5 (2, 3))).heap.size = By at hoy hgy
  clear hNy HNX hB4 hB3 hb4
  have hcut := (HNX5.out.rd.kept (growB (.cells #[.int .u8 97, .int .u8 100] 5 (2, 3)))).take (n := 4) (by decide)
  rw [show (c ++ g).take 4 = c by rw [← HC.out, List.take_left]] at hcut
  have ym1 : (4 : Int) ≤ (cx : Int) := by omega
  have ym2 : (15 : Int) ≤ (cx : Int) := by omega
  go_wp2_with fail
  have hb6 : Below w2.heap.size w2 (w5.alloc (.cells #[.int .u8 97, .int .u8 100] 5 (2, 3))) := stepB hb5 (growB _)
  have hB6 := stepB HB2.out hb6
  refine (atag_all _ _ _ _ K N adL c (by simp [adL]) (by rw [HC.out]; decide) _ (HP.out.kept hB6) (HT.out.kept hB6) (HRK.out.kept hb6) (HRN.out.kept hb6) (adL_rd rfl) hcut).mono ?_
  rintro e w6 ⟨vt, rfl, hNt⟩
  rw [HTG.out] at hNt ⊢
  obtain ⟨at', ct, rfl, -⟩ := id hNt.rd
  rw [HG.out]
  have HNX6 : Hid (New 5 w3 (.slice (some ⟨gx, 0, none⟩) 20 cx) (c ++ g) w6) := (HNX5.out.kept (growB _)).kept hNt.2
  replace hoy := ownsRow_below (ownsRow_below hoy (growB _)) hNt.2
  obtain ⟨gx', cx', ev, -, hcell, hfree, hset⟩ := HNX6.out.store (j := 19) (by rw [HLX.out]; decide)
  rw [HLX.out] at ev
  simp only [Value.slice.injEq, Option.some.injEq, Addr.mk.injEq, and_true, true_and] at ev
  obtain ⟨rfl, rfl⟩ := ev
  have e19 : (c ++ g).getD 19 0 = g.getD 15 0 := by have := get_tag c g 15; rw [HC.out] at this; exact this
  rw [e19] at hcell
  have hx7 := hset (g.getD 15 0 ^^^ 1)
  have e20 := set_tag c g 15 (g.getD 15 0 ^^^ 1)
  rw [HC.out] at e20
  rw [e20, ← byte_xor] at hx7
  have hoy7 := own_old hoy hgy 19 (.int .u8 (bits .xor .u8 ((g.getD 15 0).toNat : Int) ((1 : UInt8).toNat : Int)))
  have e1 : (((1 : UInt8).toNat : Nat) : Int) = 1 := rfl
  rw [e1] at hx7 hoy7
  have HX7 : Hid (New 5 w3 (.slice (some ⟨gx, 0, none⟩) 20 cx) (c ++ g.set 15 (g.getD 15 0 ^^^ 1)) (w6.setCell ⟨gx, 19, none⟩ (.int .u8 (bits .xor .u8 ((g.getD 15 0).toNat : Int) 1)))) := hx7
  have hcx19 : (19 : Int) < 20 := by decide
  generalize ((g.getD 15 0).toNat : Int) = G at hcell hoy7 HX7
  clear hx7 hset e20 e19 e1 hNt hcut hb5 hb6 hB6 hoy HNX5 HNX6
  go_wp2_with fail
  have hb7 : Below w2.heap.size w2 ((w6.setCell ⟨gx, 19, none⟩ (.int .u8 (bits .xor .u8 G 1))).alloc (.cells #[.int .u8 97, .int .u8 100] 5 (2, 3))) := stepB (stepB hb3 HX7.out.2) (growB _)
  have hB7 := stepB HB2.out hb7
  refine (aopen_all _ _ _ _ K N adL (c ++ g.set 15 (g.getD 15 0 ^^^ 1)) (by simp [adL]) (by rw [List.length_append, List.length_set, HC.out, HG.out]; decide) _ (HP.out.kept hB7) (HT.out.kept hB7) (HRK.out.kept hb7) (HRN.out.kept hb7) (adL_rd (b := w6.heap.size) (by simp)) (HX7.out.rd.kept (growB _))).mono ?_
  rintro e w8 ⟨vz, rfl, hNz⟩
  rw [HO2.out] at hNz ⊢
  have hb8 := stepB hb7 hNz.2
  have hB8 := stepB HB2.out hb8
  have hoy8 := ownsRow_below (ownsRow_below hoy7 (growB _)) hNz.2
  have hcut := (((HX7.out.rd.kept (growB _)).kept hNz.2)).take (n := 15) (by decide)
  have HS : Hid (((c ++ g.set 15 (g.getD 15 0 ^^^ 1)).take 15).length = 15) := by show _ = _; rw [List.length_take, List.length_append, List.length_set, HC.out, HG.out]; rfl
  generalize (c ++ g.set 15 (g.getD 15 0 ^^^ 1)).take 15 = S at hcut HS
  clear hNz hb7 hB7 hoy7 HX7 hb3
  go_wp2_with fail
  refine (aopen_all _ _ _ _ K N [] S (by simp) (by rw [HS.out]; decide) _ (HP.out.kept hB8) (HT.out.kept hB8) (HRK.out.kept hb8) (HRN.out.kept hb8) (Rd.nil _) hcut).mono ?_
  rintro e w9 ⟨vu, rfl, hNu⟩
  rw [opA_short HF.out _ _ (by rw [HS.out]; decide)] at hNu ⊢
  have hoy9 := ownsRow_below hoy8 hNu.2
  have hcv := conv_any (Rd.of_row hoy9)
  have hB9 := stepB hB8 hNu.2
  clear hNu hoy8 hoy9 hcut hb8 hB8
  go_wp2
  go_ret
  exact ⟨rfl, hB9⟩
end Go.Proofs.YtenljbljaffehaaDoor
