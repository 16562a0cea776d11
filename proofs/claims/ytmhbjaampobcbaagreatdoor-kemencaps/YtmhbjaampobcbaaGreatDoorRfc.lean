/- What functions of the program, or of the reference, answer: contracts; several texts in one. -/
import Derived.Test.YtmhbjaampobcbaaGreatDoorRef13d
import Derived.Test.YtmhbjaampobcbaaGreatDoorRfb
import Derived.Test.YtmhbjaampobcbaaGreatDoorJm
import Derived.Test.YtmhbjaampobcbaaGreatDoorWords
import Derived.Test.YtmhbjaampobcbaaGreatDoorRef12a

namespace Go.Proofs.YtmhbjaampobcbaaGreatDoor
open Go.ChangeShapes Go.WideShapes Go.ChangeAt Go.RowKit
set_option linter.unusedSimpArgs false
set_option linter.unusedVariables false

theorem OwnG.sub {w0 w : World} {L L' : List Rw} (h : OwnG w0 L w) (hs : L'.Sublist L) : OwnG w0 L' w := ⟨fun p hp => h.rows p (hs.subset hp), h.apart.sublist hs, h.below⟩

set_option maxRecDepth 100000 in
set_option maxHeartbeats 2000000 in
theorem gen14_arg (vd vz : Value) (d z : List UInt8) (w : World) (hd : Rd w vd d) (hz : Rd w vz z) (h : ¬ (d.length = 32 ∧ z.length = 32)) :
  Calls Tryz.prog 10 #[vd, vz] w fun e w' => e = .returned (.tuple #[.slice none 0 0, .slice none 0 0, .int .i64 1]) ∧ w' = w := by
 obtain ⟨ak, ck, rfl, -, -, -, -⟩ := id hd
 obtain ⟨ac, cc, rfl, -, -, -, -⟩ := id hz
 have hcase : ((d.length : Int) != 32) = true ∨ (((d.length : Int) != 32) = false ∧ ((z.length : Int) != 32) = true) := by
  by_cases h1 : d.length = 32
  ·exact .inr ⟨by simp; omega, by simp; omega⟩
  ·exact .inl (by simp; omega)
 clear hd hz h
 rcases hcase with h1 | ⟨h1, h2⟩
 all_goals
  go_enter Tryz.func10, Tryz.ntmps10
  go_wp2
  go_ret3
  exact ⟨rfl, rfl⟩

set_option maxRecDepth 100000 in
set_option maxHeartbeats 4000000 in
theorem gen14_any (vd vz : Value) (d z : List UInt8) (w : World) (hd : Rd w vd d) (hz : Rd w vz z) (hd32 : d.length = 32) (hz32 : z.length = 32) :
  Calls Tryz.prog 10 #[vd, vz] w fun e w' => ∃ x y, e = .returned (.tuple #[x, y, .int .i64 0]) ∧ OwnG w [Rw.by 5 x (ekL d), Rw.by 5 y (kdL d z)] w' := by
 obtain ⟨ak, ck, rfl, -, -, -, -⟩ := id hd
 obtain ⟨ac, cc, rfl, -, -, -, -⟩ := id hz
 have h1 : ((d.length : Int) != 32) = false := by simp; omega
 have h2 : ((z.length : Int) != 32) = false := by simp; omega
 have HD : Hid (Rd w (.slice ak d.length ck) d) := hd
 have HZ : Hid (Rd w (.slice ac z.length cc) z) := hz
 have HD32 : Hid _ := hd32
 have HZ32 : Hid _ := hz32
 have HF : Hid (dkL d ++ (ekL d ++ (hsS (ekL d) ++ z)) = kdL d z) := by show _ = _; unfold kdL; simp only [List.append_assoc]
 have L1 : Hid ((ekL d).length = 1184) := ekL_length d
 have L2 : Hid ((dkL d).length = 1152) := dkL_length d
 clear hd hz hd32 hz32
 go_enter Tryz.func10, Tryz.ntmps10
 go_wp2_with fail
 refine (gen13_any _ d _ HD.out HD32.out).mono ?_
 rintro e w1 ⟨x, y, rfl, hO⟩
 obtain ⟨E, hE⟩ : ∃ E : List UInt8, E = ekL d := ⟨_, rfl⟩
 rw [← hE] at hO HF L1
 have HEe : Hid _ := hE
 clear hE
 generalize dkL d = K at hO HF L2
 go_wp2_with fail
 refine (joinR_any _ _ K E (by have := L1.out; have := L2.out; omega) _ hO.swap.rd0 hO.rd0).mono ?_
 rintro e w2 ⟨v2, rfl, hN2⟩
 have hO2 := hO.new hN2
 clear hO hN2
 go_wp2_with fail
 refine (sum256R_any _ E (by have := L1.out; omega) _ hO2.swap.rd0).mono ?_
 rintro e w3 ⟨v3, rfl, hr3, b3⟩
 have hO3 := hO2.kept b3
 have hr3' : Rd w3 v3 (hsS E) := hr3
 have L3 : Hid ((hsS E).length = 32) := hsS_length E
 generalize hsS E = S at hr3' HF L3
 clear hO2 b3 hr3
 go_wp2_with (at_builtin; go_must (refine wpList_append_G rfl _ _ 22 rfl Tryz.underlying22 infoB13 _ _ rfl hO3 _ _ rfl hr3' (by have := L1.out; have := L2.out; have := L3.out; simp; omega) ?_))
 intro v4 w4 hO4 _
 have hz4 := HZ.out.kept hO4.below
 clear hO3 hr3'
 go_wp2_with (at_builtin; go_must (refine wpList_append_G rfl _ _ 22 rfl Tryz.underlying22 infoB13 _ _ rfl hO4 _ _ rfl hz4 (by have := L1.out; have := L2.out; have := L3.out; have := HZ32.out; simp; omega) ?_))
 intro v5 w5 hO5 _
 rw [HF.out] at hO5
 have HO : Hid (OwnG w [Rw.by 5 x (ekL d), Rw.by 5 v5 (kdL d z)] w5) := by rw [← HEe.out]; exact hO5.swap.sub (.cons_cons _ (.cons_cons _ (List.nil_sublist _)))
 clear hO4 hz4 hO5
 go_wp2
 go_ret3
 exact ⟨x, v5, rfl, HO.out⟩

set_option maxRecDepth 100000 in
set_option maxHeartbeats 4000000 in
theorem cvE_any (v : Value) (dk : List UInt8) (w : World) (hr : Rd w v dk) :
  Calls Tryz.prog 14 #[v] w fun e w' => e = .returned (.int .i64 (cvE dk)) ∧ Below w.heap.size w w' := by
 obtain ⟨a0, ck, ev, hck, hmk, -, h5⟩ := id hr
 subst ev
 by_cases hl : dk.length = 2400
 ·have h1 : ((dk.length : Int) != 2400) = false := by simp; omega
  rcases h5 with h5 | ⟨b, o, rfl, -⟩
  ·rw [h5] at hl
   simp at hl
  rw [hl] at hr hck h1 ⊢
  have hs1 := hr.sub 1152 2336 (by omega) (by omega)
  have hs2 := hr.sub 2336 2368 (by omega) (by omega)
  have HS1 : Hid (Rd w (.slice (some ⟨b, o + 1152, none⟩) 1184 (ck - 1152)) ((dk.drop 1152).take 1184)) := hs1
  have HS2 : Hid (Rd w (.slice (some ⟨b, o + 2336, none⟩) 32 (ck - 2336)) ((dk.drop 2336).take 32)) := hs2
  have HE : Hid (cvE dk = if hsS ((dk.drop 1152).take 1184) = (dk.drop 2336).take 32 then 0 else 12) := by
   show _ = _
   unfold cvE
   rw [if_pos hl]
  have HL : Hid (((dk.drop 1152).take 1184).length ≤ 1000000) := by show _ ≤ _; rw [List.length_take]; omega
  generalize (dk.drop 1152).take 1184 = A at HS1 HE HL
  generalize (dk.drop 2336).take 32 = B at HS2 HE
  unfold maxLen at hmk
  have y1 : ¬ ck = 1152 := by omega
  have y2 : ¬ ck = 2336 := by omega
  have y3 : (2336 : Int) ≤ (ck : Int) := by omega
  have y4 : (2368 : Int) ≤ (ck : Int) := by omega
  clear hr hs1 hs2 hl
  by_cases heq : hsS A = B
  ·have HEq : Hid _ := heq
   rw [HE.out, if_pos heq]
   clear heq
   go_enter Tryz.func14, Tryz.ntmps14
   go_wp2_with fail
   refine wpG_begin (by kernel_rfl) ?_
   refine wpG_t (i := 0) (oi := ⟨some 6, .move (.tmp 0), 22, "ref.go:46", #[], none⟩) (v := ?_) ?_ ?_
   rotate_left
   ·intro W hW; go_simp <;> with_reducible rfl
   try simp only [Act.put, putA, putB, putC]
   refine wpG_t (i := 1) (oi := ⟨some 7, .slice 22 (.tmp 6) (some (.const (.int .i64 1152))) (some (.const (.int .i64 2336))) none, 22, "ref.go:46", #[⟨0, .data⟩], none⟩) (v := ?_) ?_ ?_
   rotate_left
   ·intro W hW; go_simp <;> with_reducible rfl
   try simp only [Act.put, putA, putB, putC]
   refine wpG_t (i := 4) (oi := ⟨some 10, .move (.tmp 0), 22, "ref.go:46", #[], none⟩) (v := ?_) ?_ ?_
   rotate_left
   ·intro W hW; go_simp <;> with_reducible rfl
   try simp only [Act.put, putA, putB, putC]
   refine wpG_t (i := 5) (oi := ⟨some 11, .slice 22 (.tmp 10) (some (.const (.int .i64 2336))) (some (.const (.int .i64 2368))) none, 22, "ref.go:46", #[⟨4, .data⟩], none⟩) (v := ?_) ?_ ?_
   rotate_left
   ·intro W hW; go_simp <;> with_reducible rfl
   try simp only [Act.put, putA, putB, putC]
   refine wpG_t (i := 6) (oi := ⟨some 12, .convert 22 9 (.tmp 11), 9, "ref.go:46", #[⟨5, .data⟩], none⟩) (v := ?_) ?_ ?_
   rotate_left
   ·intro W hW; have hcv := conv_any ((Rd.drew HS2.out).kept hW); go_simp <;> with_reducible rfl
   try simp only [Act.put, putA, putB, putC]
   refine wpG_do (i := 2) (o := ⟨some 8, .call { callee := .value (.func 24), args := #[.tmp 7], argTypes := #[22] }, 22, "ref.go:46", #[⟨1, .data⟩], none⟩) (by kernel_rfl) rfl (by rfl) fun K hK => ?_
   go_simp
   refine (sum256R_any _ A HL.out _ (Rd.drew HS1.out)).mono ?_
   rintro e w3 ⟨v3, rfl, hr3, b3⟩
   have hr3' : Rd w3 v3 B := by rw [← HEq.out]; exact hr3
   refine hK.out _ _ b3 ?_
   clear hK K
   try simp only [Act.put, putA, putB, putC]
   refine wpG_t (i := 3) (oi := ⟨some 9, .convert 22 9 (.tmp 8), 9, "ref.go:46", #[⟨2, .data⟩], none⟩) (v := ?_) ?_ ?_
   rotate_left
   ·intro W hW; have hcv := conv_any (hr3'.kept hW); go_simp <;> with_reducible rfl
   try simp only [Act.put, putA, putB, putC]
   refine wpG_t (i := 7) (oi := ⟨some 13, .binOp .neq 9 (.tmp 9) (.tmp 12) 9, 4, "ref.go:46", #[⟨3, .data⟩, ⟨6, .data⟩], none⟩) (v := ?_) ?_ ?_
   rotate_left
   ·intro W hW; go_simp <;> with_reducible rfl
   try simp only [Act.put, putA, putB, putC]
   refine wpG_done (by kernel_rfl) ?_
   go_wp2
   go_ret
   exact ⟨rfl, stepB (Below.refl _ _).drew b3⟩
  ·have HEq : Hid _ := heq
   rw [HE.out, if_neg heq]
   clear heq
   go_enter Tryz.func14, Tryz.ntmps14
   go_wp2_with fail
   refine wpG_begin (by kernel_rfl) ?_
   refine wpG_t (i := 0) (oi := ⟨some 6, .move (.tmp 0), 22, "ref.go:46", #[], none⟩) (v := ?_) ?_ ?_
   rotate_left
   ·intro W hW; go_simp <;> with_reducible rfl
   try simp only [Act.put, putA, putB, putC]
   refine wpG_t (i := 1) (oi := ⟨some 7, .slice 22 (.tmp 6) (some (.const (.int .i64 1152))) (some (.const (.int .i64 2336))) none, 22, "ref.go:46", #[⟨0, .data⟩], none⟩) (v := ?_) ?_ ?_
   rotate_left
   ·intro W hW; go_simp <;> with_reducible rfl
   try simp only [Act.put, putA, putB, putC]
   refine wpG_t (i := 4) (oi := ⟨some 10, .move (.tmp 0), 22, "ref.go:46", #[], none⟩) (v := ?_) ?_ ?_
   rotate_left
   ·intro W hW; go_simp <;> with_reducible rfl
   try simp only [Act.put, putA, putB, putC]
   refine wpG_t (i := 5) (oi := ⟨some 11, .slice 22 (.tmp 10) (some (.const (.int .i64 2336))) (some (.const (.int .i64 2368))) none, 22, "ref.go:46", #[⟨4, .data⟩], none⟩) (v := ?_) ?_ ?_
   rotate_left
   ·intro W hW; go_simp <;> with_reducible rfl
   try simp only [Act.put, putA, putB, putC]
   refine wpG_t (i := 6) (oi := ⟨some 12, .convert 22 9 (.tmp 11), 9, "ref.go:46", #[⟨5, .data⟩], none⟩) (v := ?_) ?_ ?_
   rotate_left
   ·intro W hW; have hcv := conv_any ((Rd.drew HS2.out).kept hW); go_simp <;> with_reducible rfl
   try simp only [Act.put, putA, putB, putC]
   refine wpG_do (i := 2) (o := ⟨some 8, .call { callee := .value (.func 24), args := #[.tmp 7], argTypes := #[22] }, 22, "ref.go:46", #[⟨1, .data⟩], none⟩) (by kernel_rfl) rfl (by rfl) fun K hK => ?_
   go_simp
   refine (sum256R_any _ A HL.out _ (Rd.drew HS1.out)).mono ?_
   rintro e w3 ⟨v3, rfl, hr3, b3⟩
   have hr3' : Rd w3 v3 (hsS A) := hr3
   refine hK.out _ _ b3 ?_
   clear hK K
   try simp only [Act.put, putA, putB, putC]
   refine wpG_t (i := 3) (oi := ⟨some 9, .convert 22 9 (.tmp 8), 9, "ref.go:46", #[⟨2, .data⟩], none⟩) (v := ?_) ?_ ?_
   rotate_left
   ·intro W hW; have hcv := conv_any (hr3'.kept hW); go_simp <;> with_reducible rfl
   try simp only [Act.put, putA, putB, putC]
   refine wpG_t (i := 7) (oi := ⟨some 13, .binOp .neq 9 (.tmp 9) (.tmp 12) 9, 4, "ref.go:46", #[⟨3, .data⟩, ⟨6, .data⟩], none⟩) (v := ?_) ?_ ?_
   rotate_left
   ·intro W hW; go_simp <;> with_reducible rfl
   try simp only [Act.put, putA, putB, putC]
   refine wpG_done (by kernel_rfl) ?_
   have hbe : (hsS A == B) = false := by simpa using HEq.out
   rw [hbe]
   go_wp2
   go_ret
   exact ⟨rfl, stepB (Below.refl _ _).drew b3⟩
 ·have h1 : ((dk.length : Int) != 2400) = true := by simp; omega
  have HE : Hid (cvE dk = 1) := by
   show _ = _
   unfold cvE
   rw [if_neg hl]
  rw [HE.out]
  clear hr h5
  go_enter Tryz.func14, Tryz.ntmps14
  go_wp2
  go_ret
  exact ⟨rfl, Below.refl _ _⟩
theorem bs12_lt (f : Nat → Nat) (hf : ∀ k, f k < 2) (o q : Nat) (hq : q ≤ 12) : bs f o (12 - q) < 4096 := by
 have h := bs_lt f hf (12 - q) o
 have h2 : 2 ^ (12 - q) ≤ 2 ^ 12 := Nat.pow_le_pow_right (by decide) (by omega)
 omega
set_option maxRecDepth 100000 in
set_option maxHeartbeats 4000000 in
theorem ckE_any (v : Value) (ek : List UInt8) (w : World) (hr : Rd w v ek) :
  Calls Tryz.prog 13 #[v] w fun e w' => e = .returned (.int .i64 (ckE ek)) ∧ Below w.heap.size w w' := by
 obtain ⟨a0, ck, ev, hck, hmk, -, h5⟩ := id hr
 subst ev
 by_cases hl : ek.length = 1184
 ·have h1 : ((ek.length : Int) != 1184) = false := by simp; omega
  rcases h5 with h5 | ⟨b, o, rfl, -⟩
  ·rw [h5] at hl
   simp at hl
  have HY : Hid (∀ h : (∀ k, k < 768 → upN 12 (ek.take 1152) k < 3329), ckE ek = 0) := ckE_yes ek hl
  have HN : Hid (∀ k, k < 768 → ¬ upN 12 (ek.take 1152) k < 3329 → ckE ek = 12) := ckE_no ek hl
  have HL : Hid ((ek.take 1152).length = 1152) := by show _ = _; rw [List.length_take, hl]; decide
  rw [hl] at hr hck h1 ⊢
  have HT : Hid (Rd w (.slice (some ⟨b, o, none⟩) 1152 ck) (ek.take 1152)) := hr.take (n := 1152) (by omega)
  generalize ckE ek = R at HY HN ⊢
  generalize ek.take 1152 = B at HT HY HN HL
  unfold maxLen at hmk
  have y1 : (1152 : Int) ≤ (ck : Int) := by omega
  clear hr hl
  go_enter Tryz.func13, Tryz.ntmps13
  go_wp2_with fail
  refine (bits12_any _ B _ HT.out (by rw [HL.out]; decide)).mono ?_
  rintro e w1 ⟨r, rfl, hN⟩
  rw [HL.out] at hN
  have hlen : (fP (btY B) (8 * 1152)).length = 9216 := fP_length _ _
  obtain ⟨g, cap, rfl, hge, hrow⟩ := hN.row (by rw [← List.length_pos_iff, hlen]; decide)
  rw [hlen]
  have hcells : ∀ j, j < 9216 → w1.cell? ⟨g, j, none⟩ = some (.int .i64 ((btY B j : Nat) : Int)) := fun j hj => by
   rw [hrow.cell (by rw [hlen]; exact hj), fP_get _ _ _ hj]
  have HC : Hid _ := hcells
  have HB : Hid (Below w.heap.size w w1) := hN.2
  have HU : Hid (∀ i, bs (btY B) (12 * i) 12 = upN 12 B i) := fun i => rfl
  have HF : Hid (∀ k, btY B k < 2) := btY_lt B
  have HSt : Hid (∀ o n, bs (btY B) o (n + 1) = btY B o + 2 * bs (btY B) (o + 1) n) := fun o n => rfl
  generalize btY B = f at HC HU HF HSt
  clear hN hrow hcells hlen hge
  go_wp2
  go_loop [4] (fun iv => ∃ i : Nat, i ≤ 768 ∧ iv = .int .i64 (i : Int) ∧ Hid (∀ k, k < i → upN 12 B k < 3329)) (fun iv => 768 - (intOf iv).toNat)
  case atStart => exact ⟨0, by omega, rfl, fun k hk => by omega⟩
  case round =>
   obtain ⟨i, hi, rfl, HI⟩ := hrel
   by_cases hlt : i < 768
   ·have hd : decide ((i : Int) < 768) = true := decide_eq_true (by omega)
    have hiI : (i : Int) < 768 := by omega
    go_wp2
    go_loop [5, 6] (fun nv jv => ∃ q : Nat, q ≤ 12 ∧ jv = .int .i64 ((q : Int) - 1) ∧ nv = .int .i64 ((bs f (12 * i + q) (12 - q) : Nat) : Int)) (fun _ jv => (intOf jv + 1).toNat)
    case atStart => exact ⟨12, by omega, rfl, rfl⟩
    case round =>
     obtain ⟨q, hq, rfl, rfl⟩ := hrel
     by_cases hq0 : 0 < q
     ·obtain ⟨j, rfl⟩ : ∃ j, q = j + 1 := ⟨q - 1, by omega⟩
      have hb := bs12_lt f HF.out (12 * i + (j + 1)) (j + 1) hq
      have hst := HSt.out (12 * i + j) (11 - j)
      rw [show 11 - j + 1 = 12 - j by omega, show 12 * i + j + 1 = 12 * i + (j + 1) by omega, show 11 - j = 12 - (j + 1) by omega] at hst
      have hfj := HF.out (12 * i + j)
      have hcell := HC.out (12 * i + j) (by omega)
      obtain ⟨p, hp⟩ : ∃ p : Nat, p = 12 * i + j := ⟨_, rfl⟩
      obtain ⟨i12, hi12⟩ : ∃ p : Nat, p = 12 * i := ⟨_, rfl⟩
      have jd : ((j + 1 : Nat) : Int) - 1 = (j : Int) := by omega
      have x1 : IntKind.i64.wrap (12 * (i : Int)) = (i12 : Int) := by rw [show 12 * (i : Int) = (i12 : Int) by omega]; exact IntWalk.i64_in _ (by omega)
      have x2 : IntKind.i64.wrap ((i12 : Int) + (j : Int)) = (p : Int) := by rw [show (i12 : Int) + (j : Int) = (p : Int) by omega]; exact IntWalk.i64_in _ (by omega)
      obtain ⟨n0, hn0⟩ : ∃ n : Nat, n = bs f (12 * i + (j + 1)) (12 - (j + 1)) := ⟨_, rfl⟩
      obtain ⟨n1, hn1⟩ : ∃ n : Nat, n = bs f (12 * i + j) (12 - j) := ⟨_, rfl⟩
      rw [← hn0] at hb hst ⊢
      rw [← hn1] at hst
      rw [← hp] at hcell hst hfj
      generalize f p = y at hcell hst hfj
      obtain ⟨n2, hn2⟩ : ∃ n : Nat, n = 2 * n0 := ⟨_, rfl⟩
      have x3 : IntKind.i64.wrap (2 * (n0 : Int)) = (n2 : Int) := by rw [show 2 * (n0 : Int) = (n2 : Int) by omega]; exact IntWalk.i64_in _ (by omega)
      have x4 : IntKind.i64.wrap ((n2 : Int) + (y : Int)) = (n1 : Int) := by rw [show (n2 : Int) + (y : Int) = (n1 : Int) by omega]; exact IntWalk.i64_in _ (by omega)
      have y2 : (p : Int) < 9216 := by omega
      have y3 : p < 9216 := by omega
      have HN1 : Hid _ := hn1
      rw [jd]
      clear hst hn0 hn1 hn2 hp hi12 hb jd
      go_wp2
      go_round
      case rel => exact ⟨j, by omega, by go_num, by rw [HN1.out]⟩
      case measure => simp [intOf]
     ·have hqe : q = 0 := by omega
      subst hqe
      have hu := HU.out i
      rw [Nat.add_zero, Nat.sub_zero, hu]
      clear hu
      have hlt12 : upN 12 B i < 4096 := upN_lt 12 B i
      by_cases hbad : upN 12 B i < 3329
      ·have HI2 : Hid (∀ k, k < i + 1 → upN 12 B k < 3329) := fun k hk => by
        by_cases e : k = i
        ·rw [e]; exact hbad
        ·exact HI.out k (by omega)
       generalize upN 12 B i = u at hbad hlt12
       have hd2 : decide ((3329 : Int) ≤ (u : Int)) = false := decide_eq_false (by omega)
       have hub : (u : Int) < 3329 := by omega
       go_wp2
       go_round
       case rel => exact ⟨i + 1, by omega, by go_num, HI2⟩
       case measure => simp [intOf] <;> omega
      ·have HR : Hid (R = 12) := HN.out i hlt hbad
       generalize upN 12 B i = u at hbad hlt12
       have hd2 : decide ((3329 : Int) ≤ (u : Int)) = true := decide_eq_true (by omega)
       have hub : (3329 : Int) ≤ (u : Int) := by omega
       go_wp2
       go_ret
       exact ⟨by rw [HR.out]; rfl, HB.out⟩
   ·have hie : i = 768 := by omega
    have hd : decide ((i : Int) < 768) = false := decide_eq_false (by omega)
    have hiI : (768 : Int) ≤ (i : Int) := by omega
    have HR : Hid (R = 0) := HY.out (by rw [← hie]; exact HI.out)
    go_wp2
    go_ret
    exact ⟨by rw [HR.out]; rfl, HB.out⟩
 ·have h1 : ((ek.length : Int) != 1184) = true := by simp; omega
  have HE : Hid (ckE ek = 1) := by
   show _ = _
   unfold ckE
   rw [if_neg hl]
  rw [HE.out]
  clear hr h5
  go_enter Tryz.func13, Tryz.ntmps13
  go_wp2
  go_ret
  exact ⟨rfl, Below.refl _ _⟩
set_option maxRecDepth 100000 in
set_option maxHeartbeats 2000000 in
theorem encaps14_arg (ve vm : Value) (ek m : List UInt8) (w : World) (he : Rd w ve ek) (hm : Rd w vm m) (h : ¬ (ek.length = 1184 ∧ m.length = 32)) :
  Calls Tryz.prog 16 #[ve, vm] w fun e w' => e = .returned (.tuple #[.slice none 0 0, .slice none 0 0, .int .i64 1]) ∧ w' = w := by
 obtain ⟨ak, ck, rfl, -, -, -, -⟩ := id he
 obtain ⟨ac, cc, rfl, -, -, -, -⟩ := id hm
 have hcase : ((ek.length : Int) != 1184) = true ∨ (((ek.length : Int) != 1184) = false ∧ ((m.length : Int) != 32) = true) := by
  by_cases h1 : ek.length = 1184
  ·exact .inr ⟨by simp; omega, by simp; omega⟩
  ·exact .inl (by simp; omega)
 clear he hm h
 rcases hcase with h1 | ⟨h1, h2⟩
 all_goals
  go_enter Tryz.func16, Tryz.ntmps16
  go_wp2
  go_ret3
  exact ⟨rfl, rfl⟩

set_option maxRecDepth 100000 in
set_option maxHeartbeats 4000000 in
theorem encaps14_key (ve vm : Value) (ek m : List UInt8) (w : World) (he : Rd w ve ek) (hm : Rd w vm m) (hel : ek.length = 1184) (hml : m.length = 32) (hk : ckE ek = 12) :
  Calls Tryz.prog 16 #[ve, vm] w fun e w' => e = .returned (.tuple #[.slice none 0 0, .slice none 0 0, .int .i64 12]) ∧ Below w.heap.size w w' := by
 obtain ⟨ak, ck, rfl, -, -, -, -⟩ := id he
 obtain ⟨ac, cc, rfl, -, -, -, -⟩ := id hm
 have h1 : ((ek.length : Int) != 1184) = false := by simp; omega
 have h2 : ((m.length : Int) != 32) = false := by simp; omega
 have HE : Hid (Rd w (.slice ak ek.length ck) ek) := he
 have HK : Hid _ := hk
 clear he hm hel hml hk
 go_enter Tryz.func16, Tryz.ntmps16
 go_wp2_with fail
 refine (ckE_any _ ek _ HE.out).mono ?_
 rintro e w1 ⟨rfl, b1⟩
 rw [HK.out]
 go_wp2
 go_ret3
 exact ⟨rfl, b1⟩

set_option maxRecDepth 100000 in
set_option maxHeartbeats 4000000 in
theorem encaps14_any (ve vm : Value) (ek m : List UInt8) (w : World) (he : Rd w ve ek) (hm : Rd w vm m) (hel : ek.length = 1184) (hml : m.length = 32) (hk : ckE ek = 0) :
  Calls Tryz.prog 16 #[ve, vm] w fun e w' => ∃ x y, e = .returned (.tuple #[x, y, .int .i64 0]) ∧ Rd w' x ((seG ek m).take 32) ∧ New 5 w y (ciL ek m ((seG ek m).drop 32)) w' := by
 obtain ⟨ak, ck, rfl, -, -, -, -⟩ := id he
 obtain ⟨ac, cc, rfl, -, -, -, -⟩ := id hm
 have h1 : ((ek.length : Int) != 1184) = false := by simp; omega
 have h2 : ((m.length : Int) != 32) = false := by simp; omega
 have HE : Hid (Rd w (.slice ak ek.length ck) ek) := he
 have HM : Hid (Rd w (.slice ac m.length cc) m) := hm
 have HK : Hid _ := hk
 have HEl : Hid _ := hel
 have HMl : Hid _ := hml
 have HG : Hid (hsD (m ++ hsS ek) = seG ek m) := by show _ = _; rfl
 have HGl : Hid ((seG ek m).length = 64) := hsD_length _
 clear he hm hel hml hk
 go_enter Tryz.func16, Tryz.ntmps16
 go_wp2_with fail
 refine (ckE_any _ ek _ HE.out).mono ?_
 rintro e w1 ⟨rfl, b1⟩
 rw [HK.out]
 go_wp2_with fail
 refine (sum256R_any _ ek (by have := HEl.out; omega) _ (HE.out.kept b1)).mono ?_
 rintro e w2 ⟨v2, rfl, hr2, b2⟩
 have hb2 := stepB b1 b2
 have hr2' : Rd w2 v2 (hsS ek) := hr2
 have HSl : Hid ((hsS ek).length = 32) := hsS_length ek
 clear hr2 b1 b2
 go_wp2_with fail
 refine (joinR_any _ _ m (hsS ek) (by have := HMl.out; have := HSl.out; omega) _ (HM.out.kept hb2) hr2').mono ?_
 rintro e w3 ⟨v3, rfl, hN3⟩
 have hb3 := stepB hb2 hN3.2
 have hr3 := hN3.rd
 clear hN3 hb2 hr2'
 go_wp2_with fail
 refine (sum512R_any _ (m ++ hsS ek) (by have := HMl.out; have := HSl.out; rw [List.length_append]; omega) _ hr3).mono ?_
 rintro e w4 ⟨v4, rfl, hr4, b4⟩
 have hb4 := stepB hb3 b4
 have hr4' : Rd w4 v4 (seG ek m) := hr4
 obtain ⟨bg, og, cg, rfl, hcg, hmg, hrho, hs⟩ := gen_slice hr4' HGl.out
 unfold maxLen at hmg
 have y1 : ¬ cg = 32 := by omega
 have y2 : (64 : Int) ≤ (cg : Int) := by omega
 have y3 : (32 : Int) ≤ (cg : Int) := by omega
 have HS : Hid (Rd w4 (.slice (some ⟨bg, og + 32, none⟩) 32 (cg - 32)) ((seG ek m).drop 32)) := hs
 have HRh : Hid (Rd w4 (.slice (some ⟨bg, og, none⟩) 32 cg) ((seG ek m).take 32)) := hrho
 have HDl : Hid (((seG ek m).drop 32).length = 32) := by show _ = _; rw [List.length_drop, HGl.out]
 clear hr3 hb3 b4 hr4 hr4' hs hrho
 go_wp2_with fail
 refine (enc13_any _ _ _ ek m _ _ (HE.out.kept hb4) (HM.out.kept hb4) HS.out HEl.out HMl.out HDl.out).mono ?_
 rintro e w5 ⟨x, rfl, hN5⟩
 have HN : Hid (New 5 w x (ciL ek m ((seG ek m).drop 32)) w5) := hN5.from hb4
 have HR5 : Hid (Rd w5 (.slice (some ⟨bg, og, none⟩) 32 cg) ((seG ek m).take 32)) := HRh.out.kept hN5.2
 clear hN5 hb4
 go_wp2
 go_ret3
 exact ⟨_, x, rfl, HR5.out, HN.out⟩
set_option maxRecDepth 100000 in
set_option maxHeartbeats 2000000 in
theorem decaps14_arg (vd vc : Value) (dk c : List UInt8) (w : World) (hd : Rd w vd dk) (hc : Rd w vc c) (h : ¬ (dk.length = 2400 ∧ c.length = 1088)) :
  Calls Tryz.prog 18 #[vd, vc] w fun e w' => e = .returned (.tuple #[.slice none 0 0, .int .i64 1]) ∧ w' = w := by
 obtain ⟨ak, ck, rfl, -, -, -, -⟩ := id hd
 obtain ⟨ac, cc, rfl, -, -, -, -⟩ := id hc
 have hcase : ((dk.length : Int) != 2400) = true ∨ (((dk.length : Int) != 2400) = false ∧ ((c.length : Int) != 1088) = true) := by
  by_cases h1 : dk.length = 2400
  ·exact .inr ⟨by simp; omega, by simp; omega⟩
  ·exact .inl (by simp; omega)
 clear hd hc h
 rcases hcase with h1 | ⟨h1, h2⟩
 all_goals
  go_enter Tryz.func18, Tryz.ntmps18
  go_wp2
  go_ret2
  exact ⟨rfl, rfl⟩

set_option maxRecDepth 100000 in
set_option maxHeartbeats 4000000 in
theorem decaps14_key (vd vc : Value) (dk c : List UInt8) (w : World) (hd : Rd w vd dk) (hc : Rd w vc c) (hdl : dk.length = 2400) (hcl : c.length = 1088) (hk : cvE dk = 12) :
  Calls Tryz.prog 18 #[vd, vc] w fun e w' => e = .returned (.tuple #[.slice none 0 0, .int .i64 12]) ∧ Below w.heap.size w w' := by
 obtain ⟨ak, ck, rfl, -, -, -, -⟩ := id hd
 obtain ⟨ac, cc, rfl, -, -, -, -⟩ := id hc
 have h1 : ((dk.length : Int) != 2400) = false := by simp; omega
 have h2 : ((c.length : Int) != 1088) = false := by simp; omega
 have HD : Hid (Rd w (.slice ak dk.length ck) dk) := hd
 have HK : Hid _ := hk
 clear hd hc hdl hcl hk
 go_enter Tryz.func18, Tryz.ntmps18
 go_wp2_with fail
 refine (cvE_any _ dk _ HD.out).mono ?_
 rintro e w1 ⟨rfl, b1⟩
 rw [HK.out]
 go_wp2
 go_ret2
 exact ⟨rfl, b1⟩

set_option maxRecDepth 100000 in
set_option maxHeartbeats 8000000 in
theorem decaps14_any (vd vc : Value) (dk c : List UInt8) (w : World) (hd : Rd w vd dk) (hc : Rd w vc c) (hdl : dk.length = 2400) (hcl : c.length = 1088) (hk : cvE dk = 0) :
  Calls Tryz.prog 18 #[vd, vc] w fun e w' => ∃ x, e = .returned (.tuple #[x, .int .i64 0]) ∧ Rd w' x (opL dk c) ∧ Below w.heap.size w w' := by
 obtain ⟨a0, ck, ev, hck, hmk, -, h5⟩ := id hd
 rcases h5 with h5 | ⟨b, o, rfl, -⟩
 ·rw [h5] at hdl
  simp at hdl
 subst ev
 obtain ⟨ac, cc, rfl, -, -, -, -⟩ := id hc
 rw [hdl] at hd hck ⊢
 rw [hcl] at hc ⊢
 have hs1 := hd.sub 1152 2336 (by omega) (by omega)
 have hs2 := hd.sub 2336 2368 (by omega) (by omega)
 have hs3 := hd.sub 2368 2400 (by omega) (by omega)
 have ht3 : (dk.drop 2368).take (2400 - 2368) = dk.drop 2368 := by rw [List.take_of_length_le (by rw [List.length_drop, hdl]; decide)]
 rw [ht3] at hs3
 have HS0 : Hid (Rd w (.slice (some ⟨b, o, none⟩) 1152 ck) (dk.take 1152)) := hd.take (n := 1152) (by omega)
 have HS1 : Hid (Rd w (.slice (some ⟨b, o + 1152, none⟩) 1184 (ck - 1152)) ((dk.drop 1152).take 1184)) := hs1
 have HS2 : Hid (Rd w (.slice (some ⟨b, o + 2336, none⟩) 32 (ck - 2336)) ((dk.drop 2336).take 32)) := hs2
 have HS3 : Hid (Rd w (.slice (some ⟨b, o + 2368, none⟩) 32 (ck - 2368)) (dk.drop 2368)) := hs3
 have HD : Hid (Rd w (.slice (some ⟨b, o, none⟩) 2400 ck) dk) := hd
 have HC : Hid (Rd w (.slice ac 1088 cc) c) := hc
 have L0 : Hid ((dk.take 1152).length = 1152) := by show _ = _; rw [List.length_take, hdl]; decide
 have L1 : Hid (((dk.drop 1152).take 1184).length = 1184) := by show _ = _; rw [List.length_take, List.length_drop, hdl]; decide
 have L2 : Hid (((dk.drop 2336).take 32).length = 32) := by show _ = _; rw [List.length_take, List.length_drop, hdl]; decide
 have L3 : Hid ((dk.drop 2368).length = 32) := by show _ = _; rw [List.length_drop, hdl]
 have LC : Hid _ := hcl
 have HK : Hid _ := hk
 have HO : Hid (opL dk c = if ciL ((dk.drop 1152).take 1184) (meL (dk.take 1152) c) ((hsD (meL (dk.take 1152) c ++ (dk.drop 2336).take 32)).drop 32) = c then (hsD (meL (dk.take 1152) c ++ (dk.drop 2336).take 32)).take 32 else shS (dk.drop 2368 ++ c) 32) := by show _ = _; rfl
 have LM : Hid ((meL (dk.take 1152) c).length = 32) := meL_length _ _
 unfold maxLen at hmk
 have y1 : ¬ ck = 1152 := by omega
 have y2 : ¬ ck = 2336 := by omega
 have y3 : ¬ ck = 2368 := by omega
 have y4 : (1152 : Int) ≤ (ck : Int) := by omega
 have y5 : (2336 : Int) ≤ (ck : Int) := by omega
 have y6 : (2368 : Int) ≤ (ck : Int) := by omega
 have y7 : (2400 : Int) ≤ (ck : Int) := by omega
 clear hd hc hs1 hs2 hs3 ht3 hdl hcl hk
 go_enter Tryz.func18, Tryz.ntmps18
 go_wp2_with fail
 refine (cvE_any _ dk _ HD.out).mono ?_
 rintro e w1 ⟨rfl, b1⟩
 rw [HK.out]
 generalize (dk.drop 1152).take 1184 = A1 at HS1 L1 HO
 generalize (dk.drop 2336).take 32 = A2 at HS2 L2 HO
 generalize dk.drop 2368 = A3 at HS3 L3 HO
 generalize dk.take 1152 = A0 at HS0 L0 HO LM
 go_wp2_with fail
 refine (dec13_any _ _ A0 c _ (HS0.out.kept b1) (HC.out.kept b1) L0.out LC.out).mono ?_
 rintro e w2 ⟨vm, rfl, hN2⟩
 have hb2 := stepB b1 hN2.2
 have hrm := hN2.rd
 generalize meL A0 c = M at hrm HO LM
 clear hN2 b1
 go_wp2_with fail
 refine (joinR_any _ _ M A2 (by have := LM.out; have := L2.out; omega) _ hrm (HS2.out.kept hb2)).mono ?_
 rintro e w3 ⟨v3, rfl, hN3⟩
 have hb3 := stepB hb2 hN3.2
 have hr3 := hN3.rd
 replace hrm := hrm.kept hN3.2
 clear hN3 hb2
 go_wp2_with fail
 refine (sum512R_any _ (M ++ A2) (by have := LM.out; have := L2.out; rw [List.length_append]; omega) _ hr3).mono ?_
 rintro e w4 ⟨v4, rfl, hr4, b4⟩
 have hb4 := stepB hb3 b4
 replace hrm := hrm.kept b4
 have hr4' : Rd w4 v4 (hsD (M ++ A2)) := hr4
 have HGl : Hid ((hsD (M ++ A2)).length = 64) := hsD_length _
 generalize hsD (M ++ A2) = G at hr4' HGl HO
 obtain ⟨bg, og, cg, rfl, hcg, hmg, hrho, hs⟩ := gen_slice hr4' HGl.out
 unfold maxLen at hmg
 have z1 : ¬ cg = 32 := by omega
 have z2 : (64 : Int) ≤ (cg : Int) := by omega
 have z3 : (32 : Int) ≤ (cg : Int) := by omega
 have HS : Hid (Rd w4 (.slice (some ⟨bg, og + 32, none⟩) 32 (cg - 32)) (G.drop 32)) := hs
 have HRh : Hid (Rd w4 (.slice (some ⟨bg, og, none⟩) 32 cg) (G.take 32)) := hrho
 have HDl : Hid ((G.drop 32).length = 32) := by show _ = _; rw [List.length_drop, HGl.out]
 have HRm : Hid (Rd w4 vm M) := hrm
 clear hr3 hb3 b4 hr4 hr4' hs hrho hrm
 go_wp2_with fail
 refine wpG_begin (by kernel_rfl) ?_
 refine wpG_t (i := 0) (oi := ⟨some 38, .move (.tmp 0), 22, "ref.go:77", #[], none⟩) (v := ?_) ?_ ?_
 rotate_left
 ·intro W hW; go_simp <;> with_reducible rfl
 try simp only [Act.put, putA, putB, putC]
 refine wpG_t (i := 1) (oi := ⟨some 39, .slice 22 (.tmp 38) (some (.const (.int .i64 1152))) (some (.const (.int .i64 2336))) none, 22, "ref.go:77", #[⟨0, .data⟩], none⟩) (v := ?_) ?_ ?_
 rotate_left
 ·intro W hW; go_simp <;> with_reducible rfl
 try simp only [Act.put, putA, putB, putC]
 refine wpG_t (i := 2) (oi := ⟨some 40, .move (.tmp 7), 22, "ref.go:77", #[], none⟩) (v := ?_) ?_ ?_
 rotate_left
 ·intro W hW; go_simp <;> with_reducible rfl
 try simp only [Act.put, putA, putB, putC]
 refine wpG_t (i := 3) (oi := ⟨some 41, .move (.tmp 9), 22, "ref.go:77", #[], none⟩) (v := ?_) ?_ ?_
 rotate_left
 ·intro W hW; go_simp <;> with_reducible rfl
 try simp only [Act.put, putA, putB, putC]
 refine wpG_t (i := 4) (oi := ⟨some 42, .slice 22 (.tmp 41) (some (.const (.int .i64 32))) none none, 22, "ref.go:77", #[⟨3, .data⟩], none⟩) (v := ?_) ?_ ?_
 rotate_left
 ·intro W hW; go_simp <;> with_reducible rfl
 try simp only [Act.put, putA, putB, putC]
 refine wpG_do (i := 5) (o := ⟨some 43, .call { callee := .value (.func 32), args := #[.tmp 39, .tmp 40, .tmp 42], argTypes := #[22, 22, 22] }, 33, "ref.go:77", #[⟨1, .data⟩, ⟨2, .data⟩, ⟨4, .data⟩], none⟩) (by kernel_rfl) rfl (by rfl) fun K hK => ?_
 go_simp
 refine (enc13_any _ _ _ A1 M _ _ (HS1.out.kept hb4).drew (Rd.drew HRm.out) (Rd.drew HS.out) L1.out LM.out HDl.out).mono ?_
 rintro e w5 ⟨x5, rfl, hN5⟩
 refine hK.out _ _ hN5.2 ?_
 clear hK K
 try simp only [Act.put, putA, putB, putC]
 refine wpG_t (i := 6) (oi := ⟨some 37, .move (.tmp 43), 33, "ref.go:77", #[⟨5, .data⟩], none⟩) (v := ?_) ?_ ?_
 rotate_left
 ·intro W hW; go_simp <;> with_reducible rfl
 try simp only [Act.put, putA, putB, putC]
 refine wpG_t (i := 7) (oi := ⟨some 44, .extract (.tmp 37) 0, 22, "ref.go:77", #[⟨6, .data⟩], none⟩) (v := ?_) ?_ ?_
 rotate_left
 ·intro W hW; go_simp <;> with_reducible rfl
 try simp only [Act.put, putA, putB, putC]
 refine wpG_t (i := 8) (oi := ⟨some 45, .extract (.tmp 37) 1, 24, "ref.go:77", #[⟨6, .data⟩, ⟨9, .gcOnly .lateStores⟩], none⟩) (v := ?_) ?_ ?_
 rotate_left
 ·intro W hW; go_simp <;> with_reducible rfl
 try simp only [Act.put, putA, putB, putC]
 refine wpG_t (i := 9) (oi := ⟨some 10, .assign (.tmp 44), 22, "ref.go:77", #[⟨7, .data⟩, ⟨5, .chain⟩, ⟨0, .phase⟩, ⟨1, .phase⟩, ⟨2, .phase⟩, ⟨3, .phase⟩, ⟨4, .phase⟩, ⟨5, .phase⟩, ⟨6, .phase⟩, ⟨7, .phase⟩, ⟨8, .textOnly .lateStores⟩], none⟩) (v := ?_) ?_ ?_
 rotate_left
 ·intro W hW; go_simp <;> with_reducible rfl
 try simp only [Act.put, putA, putB, putC]
 refine wpG_t (i := 10) (oi := ⟨some 11, .assign (.tmp 45), 24, "ref.go:77", #[⟨8, .data⟩, ⟨9, .chain⟩, ⟨0, .phase⟩, ⟨1, .phase⟩, ⟨2, .phase⟩, ⟨3, .phase⟩, ⟨4, .phase⟩, ⟨5, .phase⟩, ⟨6, .phase⟩, ⟨7, .phase⟩, ⟨8, .phase⟩, ⟨9, .phase⟩], none⟩) (v := ?_) ?_ ?_
 rotate_left
 ·intro W hW; go_simp <;> with_reducible rfl
 try simp only [Act.put, putA, putB, putC]
 refine wpG_done (by kernel_rfl) ?_
 have hb5 := stepB hb4.drew hN5.2
 have hr5 := hN5.rd
 have hc5 := HC.out.kept hb5
 have HR5 : Hid (Rd w5 (.slice (some ⟨bg, og, none⟩) 32 cg) (G.take 32)) := (Rd.drew HRh.out).kept hN5.2
 generalize ciL A1 M (G.drop 32) = X at hr5 HO
 have cv1 := conv_any hr5
 have cv2 := conv_any hc5
 have HB5 : Hid _ := hb5
 have HX3 : Hid (Rd w5 (.slice (some ⟨b, o + 2368, none⟩) 32 (ck - 2368)) A3) := HS3.out.kept hb5
 have HX4 : Hid (Rd w5 (.slice ac 1088 cc) c) := hc5
 clear hN5 hb4 hr5 hc5 hb5
 by_cases heq : X = c
 ·have HOe : Hid (opL dk c = G.take 32) := by
   show _ = _
   rw [HO.out, if_pos heq]
  have hbe : (X == c) = true := by simpa using heq
  clear HO heq
  go_wp2
  go_ret2
  exact ⟨_, rfl, by rw [HOe.out]; exact HR5.out, HB5.out⟩
 ·have HOe : Hid (opL dk c = shS (A3 ++ c) 32) := by
   show _ = _
   rw [HO.out, if_neg heq]
  have hbe : (X == c) = false := by simpa using heq
  clear HO heq
  go_wp2_with fail
  refine (joinR_any _ _ A3 c (by have := L3.out; have := LC.out; omega) _ HX3.out HX4.out).mono ?_
  rintro e w6 ⟨v6, rfl, hN6⟩
  have HB6 : Hid _ := stepB HB5.out hN6.2
  have hr6 := hN6.rd
  clear hN6
  go_wp2_with fail
  refine (shake256R_any _ (A3 ++ c) (by have := L3.out; have := LC.out; rw [List.length_append]; omega) 32 (by decide) _ hr6).mono ?_
  rintro e w7 ⟨v7, rfl, hr7, b7⟩
  have hr7' : Rd w7 v7 (shS (A3 ++ c) 32) := hr7
  have HR7 : Hid _ := hr7'
  have HB7 : Hid _ := stepB HB6.out b7
  clear hr7 hr7' hr6 b7
  go_wp2
  go_ret2
  exact ⟨v7, rfl, by rw [HOe.out]; exact HR7.out, HB7.out⟩
end Go.Proofs.YtmhbjaampobcbaaGreatDoor
