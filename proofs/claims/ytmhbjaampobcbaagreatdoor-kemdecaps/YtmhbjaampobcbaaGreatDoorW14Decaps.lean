/- What the law KemDecaps answers at every input: the walk. -/
import Derived.Test.YtmhbjaampobcbaaGreatDoorXk
import Derived.Test.YtmhbjaampobcbaaGreatDoorBase
import Derived.Deep.DeepCutAuto
namespace Go.Proofs.YtmhbjaampobcbaaGreatDoor
open Go.ChangeShapes Go.WideShapes Go.ChangeAt Go.RowKit
set_option linter.unusedSimpArgs false
set_option linter.unusedVariables false

theorem eaA_len (ek m : List UInt8) : (eaA ek m).2.1.length ≤ 1088 := by
 unfold eaA
 split
 ·split
  ·exact Nat.le_of_eq (ciL_length _ _ _)
  ·exact Nat.zero_le _
 ·exact Nat.zero_le _

set_option maxRecDepth 100000 in
set_option maxHeartbeats 8000000 in
theorem decaps_walk (vd vk vc vm vt : Value) (d dk c m : List UInt8) (t : List Int) (w : World) (hd : Rd w vd d) (hk : Rd w vk dk) (hc : Rd w vc c) (hm : Rd w vm m) (htn : RdI .i64 w vt t) (hcl : c.length ≤ 140737488351232) (hT : Tabs w) (hP : PwT w) :
  Calls Tryz.prog 6 #[vd, vk, vc, vm, vt] w fun e w' => e = .returned (.bool true) ∧ Below w.heap.size w w' := by
 obtain ⟨at', ct, rfl, hlct, hmt, -, -⟩ := id htn
 obtain ⟨Lt, hLt⟩ : ∃ Lt : Nat, Lt = t.length := ⟨_, rfl⟩
 rw [← hLt] at htn hlct ⊢
 have HLt : Hid (Lt = t.length) := hLt
 have HD : Hid (Rd w vd d) := hd
 have HK : Hid (Rd w vk dk) := hk
 have HC : Hid (Rd w vc c) := hc
 have HM : Hid (Rd w vm m) := hm
 have HTn : Hid (RdI .i64 w (.slice at' Lt ct) t) := htn
 have HCl : Hid _ := hcl
 have HT : Hid (Tabs w) := hT
 have HP : Hid (PwT w) := hP
 unfold maxLen at hmt
 clear hd hk hc hm hT hP htn hLt hcl
 go_enter Tryz.func6, Tryz.ntmps6
 go_wp2_with fail
 refine (awake_any _ HT.out HP.out).mono ?_
 rintro e w1 ⟨rfl, b1⟩
 go_wp2_with fail
 refine (gen14_all _ _ d d _ (Rd.kept HD.out b1) (Rd.kept HD.out b1)).mono ?_
 rintro e w2 ⟨x, y, rfl, hx, hy, b2⟩
 have hbw := stepB b1 b2
 obtain ⟨F, hF⟩ : ∃ F : Int, F = (gkA d d).2.2 := ⟨_, rfl⟩
 rw [← hF]
 generalize (gkA d d).1 = X at hx
 generalize (gkA d d).2.1 = Y at hy
 have HX : Hid (Rd w2 x X) := hx
 have HY : Hid (Rd w2 y Y) := hy
 have HK2 : Hid (Rd w2 vk dk) := Rd.kept HK.out hbw
 clear hF hy b1 b2 hx
 go_upto_if 36 with fail
 go_cut [1] (fun kv wx => ∃ kl : List UInt8, Rd w2 kv kl ∧ w2 = wx)
 case first =>
  by_cases hf : F = 0
  ·have hf1 : (F == 0) = true := by simp [hf]
   clear hf
   go_wp2
   go_meet
   exact ⟨Y, HY.out, rfl⟩
  ·have hf1 : (F == 0) = false := by simp [hf]
   clear hf
   go_wp2
   go_meet
   exact ⟨dk, HK2.out, rfl⟩
 case rest =>
 obtain ⟨kl, hkl, rfl⟩ := hcut
 have HKl : Hid _ := hkl
 clear HY HK2 hkl
 go_wp2_with fail
 refine (encaps14_all _ _ X m _ HX.out (Rd.kept HM.out hbw)).mono ?_
 rintro e w3 ⟨p, q, rfl, hp, hq, b3⟩
 obtain ⟨E, hE⟩ : ∃ E : Int, E = (eaA X m).2.2 := ⟨_, rfl⟩
 rw [← hE]
 have HQl : Hid ((eaA X m).2.1.length ≤ 1088) := eaA_len X m
 generalize (eaA X m).2.1 = Q at hq HQl
 have HQ : Hid (Rd w3 q Q) := hq
 replace hbw := stepB hbw b3
 have HC3 : Hid (Rd w3 vc c) := Rd.kept HC.out hbw
 have HK3 : Hid (Rd w3 _ kl) := Rd.kept HKl.out b3
 clear hE hp hq b3 HX HKl
 go_upto_if 46 with fail
 go_cut [16] (fun bv wx => ∃ bl : List UInt8, Rd w3 bv bl ∧ Hid (bl.length ≤ 140737488351232) ∧ w3 = wx)
 case first =>
  by_cases hf : E = 0
  ·have hf1 : (E != 0) = false := by simp [hf]
   clear hf
   go_wp2
   go_meet
   exact ⟨Q, HQ.out, Nat.le_trans HQl.out (by decide), rfl⟩
  ·have hf1 : (E != 0) = true := by simp [hf]
   clear hf
   go_wp2
   go_meet
   exact ⟨c, HC3.out, HCl.out, rfl⟩
 case rest =>
 obtain ⟨bl, hbl, HBl, rfl⟩ := hcut
 obtain ⟨ab, cb, rfl, -, hmb, -⟩ := id hbl
 have hN0 : New 5 w3 (.slice none 0 0) [] w3 := ⟨World.ownsRow_nil _ _ _ _, Below.refl _ _⟩
 clear HQ HC3 hmb
 go_wp2_with (at_builtin; go_must (refine wpList_append_new (w := w3) rfl _ _ 22 rfl 5 Tryz.underlying22 info513 _ _ rfl hN0 _ _ rfl hbl (by have := HBl.out; simp; omega) ?_))
 intro vt4 w4 hN4 _
 obtain ⟨sb, cs, rfl, -, hmS, -⟩ := id hN4.rd
 obtain ⟨N, hSN0⟩ : ∃ N : Nat, N = bl.length := ⟨_, rfl⟩
 rw [← hSN0] at hN4 HBl ⊢
 have HSN0 : Hid (N = bl.length) := hSN0
 unfold maxLen at hmS
 have HBw : Hid (Below w.heap.size w w3) := hbw
 clear hN0 hbl hSN0 hbw
 go_wp2
 go_loopw [19] (fun iv wx => ∃ (i : Nat) (S : List UInt8), i ≤ 9 ∧ iv = .int .i64 (i : Int) ∧ Hid (N = S.length) ∧ New 5 w3 (.slice sb N cs) S wx) (fun iv _ => 10 - (intOf iv).toNat)
 case atStart => exact ⟨0, bl, by omega, rfl, HSN0, hN4⟩
 case round =>
  obtain ⟨i, S, hi, rfl, HSN, hNS⟩ := hrel
  clear hN4 HSN0
  have hbx := hNS.2
  by_cases hgo : i + 1 < Lt ∧ i < 8 ∧ 0 < N
  ·obtain ⟨h1, h2, h3⟩ := hgo
   have d1 : decide ((i : Int) + 1 < (Lt : Int)) = true := decide_eq_true (by omega)
   have g1 : (i : Int) + 1 < (Lt : Int) := by omega
   have d2 : decide ((i : Int) < 8) = true := decide_eq_true (by omega)
   have g2 : (i : Int) < 8 := by omega
   have d3 : decide ((0 : Int) < (N : Int)) = true := decide_eq_true (by omega)
   have g3 : (0 : Int) < (N : Int) := by omega
   have g4 : ¬ (N : Int) = 0 := by omega
   obtain ⟨bt, ot, ct', ev, hlc, hmx, hbt, hcells⟩ := (HTn.out.kept (stepB HBw.out hbx)).cells (by intro h; rw [HLt.out, h] at h1; simp at h1)
   simp only [Value.slice.injEq] at ev
   obtain ⟨rfl, -, rfl⟩ := ev
   have ci := hcells i (by rw [← HLt.out]; omega)
   have cj := hcells (i + 1) (by rw [← HLt.out]; omega)
   obtain ⟨X, hX, hXa⟩ := and_small (t.getD i 0) 16777215 (by decide)
   obtain ⟨Y, hY, hYa⟩ := and_small (t.getD (i + 1) 0) 255 (by decide)
   have hXa' : bits .and .i64 (t.getD i 0) 16777215 = (X : Int) := hXa
   have hYa' : bits .and .i64 (t.getD (i + 1) 0) 255 = (Y : Int) := hYa
   clear hXa hYa
   obtain ⟨q, hq⟩ : ∃ q : Nat, q = X % N := ⟨_, rfl⟩
   have hqN : q < N := by rw [hq]; exact Nat.mod_lt _ h3
   have hqI : (q : Int) < (N : Int) := by omega
   have hqX : q ≤ 16777215 := by rw [hq]; exact Nat.le_trans (Nat.mod_le _ _) hX
   have em : ((X : Int)).tmod (N : Int) = (q : Int) := by rw [Int.tmod_eq_emod_of_nonneg (by omega), hq]; omega
   have em2 : (X : Int) % (N : Int) = (q : Int) := by rw [hq]; omega
   have em3 : IntKind.i64.wrap (q : Int) = (q : Int) := IntWalk.i64_in _ (by omega)
   obtain ⟨yb, hyb⟩ : ∃ yb : UInt8, yb.toNat = Y := ⟨UInt8.ofNat Y, by rw [UInt8.toNat_ofNat']; omega⟩
   have ey : IntKind.u8.wrap (Y : Int) = (Y : Int) := by rw [IntKind.wrap_u8]; omega
   have ey2 : (Y : Int) % 256 = (Y : Int) := by omega
   obtain ⟨gx, cx, ev, hcx, hcell, hfree, hset⟩ := hNS.store (j := q) (by rw [← HSN.out]; exact hqN)
   rw [← HSN.out] at ev hcx
   simp only [Value.slice.injEq, Option.some.injEq, Addr.mk.injEq, and_true, true_and] at ev
   obtain ⟨rfl, rfl⟩ := ev
   have hx7 := hset (S.getD q 0 ^^^ yb)
   rw [← byte_xor, hyb] at hx7
   have HX7 : Hid (New 5 w3 (.slice (some ⟨gx, 0, none⟩) N cs) (S.set q (S.getD q 0 ^^^ yb)) (wr.setCell ⟨gx, q, none⟩ (.int .u8 (bits .xor .u8 ((S.getD q 0).toNat : Int) (Y : Int))))) := hx7
   have HL7 : Hid (N = (S.set q (S.getD q 0 ^^^ yb)).length) := by show _ = _; rw [List.length_set]; exact HSN.out
   generalize S.set q (S.getD q 0 ^^^ yb) = S2 at HX7 HL7
   generalize ((S.getD q 0).toNat : Int) = G at hcell HX7
   generalize t.getD i 0 = ti at ci hXa'
   generalize t.getD (i + 1) 0 = tj at cj hYa'
   have wi : IntKind.i64.wrap ((i : Int) + 1) = (i : Int) + 1 := IntWalk.i64_in _ (by omega)
   have ei : ((i : Int) + 1).toNat = i + 1 := by omega
   have ei0 : (0 : Int) ≤ (i : Int) + 1 := by omega
   clear hx7 hset hNS HSN hcells hq hyb hmx hlc hcx hqX
   go_wp2_with fail
   refine wpE_begin 15 (by kernel_rfl) ?_
   refine wpE_t (i := 0) (oi := ⟨some 75, .move (.tmp 18), 22, "law.go:93", #[], none⟩) (v := ?_) ?_ ?_
   rotate_left
   ·intro W hW; go_simp <;> with_reducible rfl
   try simp only [Act.put, putA, putB, putC]
   refine wpE_t (i := 1) (oi := ⟨some 76, .move (.tmp 20), 3, "law.go:93", #[], none⟩) (v := ?_) ?_ ?_
   rotate_left
   ·intro W hW; go_simp <;> with_reducible rfl
   try simp only [Act.put, putA, putB, putC]
   refine wpE_t (i := 2) (oi := ⟨some 77, .move (.tmp 18), 22, "law.go:93", #[], none⟩) (v := ?_) ?_ ?_
   rotate_left
   ·intro W hW; go_simp <;> with_reducible rfl
   try simp only [Act.put, putA, putB, putC]
   refine wpE_t (i := 3) (oi := ⟨some 78, .move (.tmp 20), 3, "law.go:93", #[], none⟩) (v := ?_) ?_ ?_
   rotate_left
   ·intro W hW; go_simp <;> with_reducible rfl
   try simp only [Act.put, putA, putB, putC]
   refine wpE_t (i := 4) (oi := ⟨some 79, .indexAddr 22 (.tmp 77) (.tmp 78), 0, "law.go:93", #[⟨2, .data⟩, ⟨3, .data⟩], none⟩) (v := ?_) ?_ ?_
   rotate_left
   ·intro W hW; go_simp <;> with_reducible rfl
   try simp only [Act.put, putA, putB, putC]
   refine wpE_t (i := 5) (oi := ⟨some 80, .load 5 (.tmp 79), 5, "law.go:93", #[⟨4, .data⟩], none⟩) (v := ?_) ?_ ?_
   rotate_left
   ·intro W hW; have hcw := cellU hcell hW; go_simp <;> with_reducible rfl
   try simp only [Act.put, putA, putB, putC]
   refine wpE_t (i := 6) (oi := ⟨some 81, .move (.tmp 4), 30, "law.go:93", #[], none⟩) (v := ?_) ?_ ?_
   rotate_left
   ·intro W hW; go_simp <;> with_reducible rfl
   try simp only [Act.put, putA, putB, putC]
   refine wpE_t (i := 7) (oi := ⟨some 82, .move (.tmp 19), 3, "law.go:93", #[], none⟩) (v := ?_) ?_ ?_
   rotate_left
   ·intro W hW; go_simp <;> with_reducible rfl
   try simp only [Act.put, putA, putB, putC]
   refine wpE_t (i := 8) (oi := ⟨some 83, .binOp .add 3 (.tmp 82) (.const (.int .i64 1)) 3, 3, "law.go:93", #[⟨7, .data⟩], none⟩) (v := ?_) ?_ ?_
   rotate_left
   ·intro W hW; go_simp <;> with_reducible rfl
   try simp only [Act.put, putA, putB, putC]
   refine wpE_t (i := 9) (oi := ⟨some 84, .indexAddr 30 (.tmp 81) (.tmp 83), 0, "law.go:93", #[⟨6, .data⟩, ⟨8, .data⟩], none⟩) (v := ?_) ?_ ?_
   rotate_left
   ·intro W hW; go_simp <;> with_reducible rfl
   try simp only [Act.put, putA, putB, putC]
   refine wpE_t (i := 10) (oi := ⟨some 85, .load 3 (.tmp 84), 3, "law.go:93", #[⟨9, .data⟩], none⟩) (v := ?_) ?_ ?_
   rotate_left
   ·intro W hW; have hcw := cellU cj hW; go_simp <;> with_reducible rfl
   try simp only [Act.put, putA, putB, putC]
   refine wpE_t (i := 11) (oi := ⟨some 86, .binOp .and 3 (.tmp 85) (.const (.int .i64 255)) 3, 3, "law.go:93", #[⟨10, .data⟩], none⟩) (v := ?_) ?_ ?_
   rotate_left
   ·intro W hW; go_simp <;> with_reducible rfl
   try simp only [Act.put, putA, putB, putC]
   refine wpE_t (i := 12) (oi := ⟨some 87, .convert 3 5 (.tmp 86), 5, "law.go:93", #[⟨11, .data⟩], none⟩) (v := ?_) ?_ ?_
   rotate_left
   ·intro W hW; go_simp <;> with_reducible rfl
   try simp only [Act.put, putA, putB, putC]
   refine wpE_t (i := 13) (oi := ⟨some 88, .binOp .xor 5 (.tmp 80) (.tmp 87) 5, 5, "law.go:93", #[⟨5, .data⟩, ⟨12, .data⟩], none⟩) (v := ?_) ?_ ?_
   rotate_left
   ·intro W hW; go_simp <;> with_reducible rfl
   try simp only [Act.put, putA, putB, putC]
   refine wpE_t (i := 14) (oi := ⟨some 89, .indexAddr 22 (.tmp 75) (.tmp 76), 0, "law.go:93", #[⟨0, .data⟩, ⟨1, .data⟩, ⟨0, .phase⟩, ⟨1, .phase⟩, ⟨2, .phase⟩, ⟨3, .phase⟩, ⟨4, .phase⟩, ⟨5, .phase⟩, ⟨6, .phase⟩, ⟨7, .phase⟩, ⟨8, .phase⟩, ⟨9, .phase⟩, ⟨10, .phase⟩, ⟨11, .phase⟩, ⟨12, .phase⟩, ⟨13, .phase⟩], none⟩) (v := ?_) ?_ ?_
   rotate_left
   ·intro W hW; go_simp <;> with_reducible rfl
   try simp only [Act.put, putA, putB, putC]
   refine wpE_last (o := ⟨none, .store 5 (.tmp 89) (.tmp 88), 0, "law.go:93", #[⟨14, .data⟩, ⟨13, .data⟩, ⟨0, .phase⟩, ⟨1, .phase⟩, ⟨2, .phase⟩, ⟨3, .phase⟩, ⟨4, .phase⟩, ⟨5, .phase⟩, ⟨6, .phase⟩, ⟨7, .phase⟩, ⟨8, .phase⟩, ⟨9, .phase⟩, ⟨10, .phase⟩, ⟨11, .phase⟩, ⟨12, .phase⟩, ⟨13, .phase⟩], none⟩) (by kernel_rfl) (by kernel_rfl) rfl (by rfl) fun K hK => ?_
   go_simp
   refine hK.out _ _ ?_
   clear hK K
   try simp only [Act.put, putA, putB, putC]
   go_wp2
   go_roundw
   case rel => exact ⟨i + 2, S2, by omega, by go_num, HL7, New.drew HX7.out⟩
   case measure => simp [intOf] <;> omega
  ·have hcase : (decide ((i : Int) + 1 < (Lt : Int)) = false ∧ (Lt : Int) ≤ (i : Int) + 1) ∨ (decide ((i : Int) + 1 < (Lt : Int)) = true ∧ (i : Int) + 1 < (Lt : Int) ∧ decide ((i : Int) < 8) = false ∧ (8 : Int) ≤ (i : Int)) ∨
     (decide ((i : Int) + 1 < (Lt : Int)) = true ∧ (i : Int) + 1 < (Lt : Int) ∧ decide ((i : Int) < 8) = true ∧ (i : Int) < 8 ∧ decide ((0 : Int) < (N : Int)) = false ∧ (N : Int) ≤ 0) := by
    by_cases h1 : i + 1 < Lt
    ·by_cases h2 : i < 8
     ·exact .inr (.inr ⟨decide_eq_true (by omega), by omega, decide_eq_true (by omega), by omega, decide_eq_false (by omega), by omega⟩)
     ·exact .inr (.inl ⟨decide_eq_true (by omega), by omega, decide_eq_false (by omega), by omega⟩)
    ·exact .inl ⟨decide_eq_false (by omega), by omega⟩
   have s1 : Rd wr (.slice sb N cs) S := hNS.rd
   have HS1 : Hid _ := s1
   have hb3 := stepB HBw.out hbx
   clear hNS HSN hgo s1
   rcases hcase with ⟨d1, g1⟩ | ⟨d1, g1, d2, g2⟩ | ⟨d1, g1, d2, g2, d3, g3⟩
   all_goals
    go_wp2_with fail
    refine (mdecaps_all _ _ kl S _ (Rd.kept HK3.out hbx) HS1.out (HT.out.kept hb3) (HP.out.kept hb3)).mono ?_
    rintro e w6 ⟨vz, rfl, hz, b6⟩
    go_wp2_with fail
    refine (decaps14_all _ _ kl S _ (Rd.kept HK3.out (stepB hbx b6)) (Rd.kept HS1.out b6)).mono ?_
    rintro e w7 ⟨vw, rfl, hw7, b7⟩
    have HB7 : Hid (Below w.heap.size w w7) := stepB (stepB hb3 b6) b7
    have z2 := convS (Rd.kept hz b7)
    have w2 := convS hw7
    generalize oaA kl S = A at z2 w2 ⊢
    have hZZ : (A.1 == A.1) = true := by simp
    have hYY : (A.2 == A.2) = true := by simp
    clear hz hw7 b6 b7 hb3 hbx HS1
    go_wp2
    go_ret
    exact ⟨rfl, HB7.out⟩
end Go.Proofs.YtmhbjaampobcbaaGreatDoor
