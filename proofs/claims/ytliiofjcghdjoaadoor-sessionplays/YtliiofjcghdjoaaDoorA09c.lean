/- What the program's own tags, sealing and opening answer: contracts of package aead, third part. -/
import Derived.Test.YtliiofjcghdjoaaDoorA09b
import Derived.OwnWalk
namespace Go.Proofs.YtliiofjcghdjoaaDoor
open Go.ChangeShapes Go.WideShapes Go.ChangeAt Go.RowKit
set_option linter.unusedSimpArgs false
set_option linter.unusedVariables false

set_option maxHeartbeats 1000000 in
theorem atag_arg (vk vn va vb : Value) (k n : List UInt8) (h : ¬ (k.length = 32 ∧ n.length = 12)) (w : World) (hk : Rd w vk k) (hn : Rd w vn n) :
    Calls Tryd.prog 57 #[vk, vn, va, vb] w fun e w' => e = .returned (.tuple #[.slice none 0 0, .int .i64 1]) ∧ w' = w := by
  have hd : decide (k.length = 32 ∧ n.length = 12) = false := decide_eq_false h
  have HD : Hid _ := hd
  have HK : Hid (Rd w vk k) := hk
  have HN : Hid (Rd w vn n) := hn
  clear hd h hk hn
  go_enter Tryd.func57, Tryd.ntmps57
  go_wp2_with fail
  refine (afit_any _ _ k n _ HK.out HN.out).mono ?_
  rintro e w2 ⟨rfl, rfl⟩
  rw [HD.out]
  go_wp2
  go_ret2
  exact ⟨rfl, rfl⟩

set_option maxRecDepth 100000 in
set_option maxHeartbeats 2000000 in
theorem atag_any (vk vn va vb : Value) (k n a b : List UInt8) (hk32 : k.length = 32) (hn12 : n.length = 12) (hla : a.length ≤ 3000000) (hlb : b.length ≤ 3000000) (w : World) (hP : PlT w) (hT : KpT w) (hk : Rd w vk k) (hn : Rd w vn n) (ha : Rd w va a) (hb : Rd w vb b) :
    Calls Tryd.prog 57 #[vk, vn, va, vb] w fun e w' => ∃ r, e = .returned (.tuple #[r, .int .i64 0]) ∧ New 5 w r (tgL k n a b) w' := by
  have HD : Hid (decide (k.length = 32 ∧ n.length = 12) = true) := decide_eq_true ⟨hk32, hn12⟩
  have HK : Hid (Rd w vk k) := hk
  have HN : Hid (Rd w vn n) := hn
  have HA : Hid (Rd w va a) := ha
  have HB : Hid (Rd w vb b) := hb
  have H1 : Hid (k.length = 32) := hk32
  have H2 : Hid (n.length = 12) := hn12
  have HLA : Hid (a.length ≤ 3000000) := hla
  have HLB : Hid (b.length ≤ 3000000) := hlb
  have HP : Hid (PlT w) := hP
  have HT : Hid (KpT w) := hT
  clear hk32 hn12 hla hlb hP hT hk hn ha hb
  go_enter Tryd.func57, Tryd.ntmps57
  go_wp2_with fail
  refine (afit_any _ _ k n _ HK.out HN.out).mono ?_
  rintro e w ⟨rfl, rfl⟩
  rw [HD.out]
  go_wp2_with fail
  refine (block_any _ _ k n 0 _ rfl (by decide) _ HP.out HK.out HN.out H1.out H2.out).mono ?_
  rintro e w1 ⟨v1, rfl, hN1⟩
  have h1 := hN1.rd
  have hbw := hN1.2
  obtain ⟨a1, c1, rfl, hc1, hm1, -, -⟩ := id h1
  rw [bkL_length] at h1 hc1 ⊢
  have ht := h1.take (n := 32) (by decide)
  have HTL : Hid (((bkL k 0 n).take 32).length = 32) := by show _ = _; rw [List.length_take, bkL_length]; rfl
  have HE : Hid (tgL k n a b = mcP ((bkL k 0 n).take 32) (tgI a b)) := rfl
  generalize (bkL k 0 n).take 32 = K at ht HTL HE
  have HTk : Hid (Rd w1 _ K) := ht
  unfold maxLen at hm1
  have ym1 : (32 : Int) ≤ (c1 : Int) := by omega
  clear h1 hN1 ht
  go_wp2_with fail
  refine (covered_any _ _ a b HLA.out HLB.out _ (HA.out.kept hbw) (HB.out.kept hbw)).mono ?_
  rintro e w2 ⟨v2, rfl, hN2⟩
  have h2 := hN2.rd
  have ht := HTk.out.kept hN2.2
  replace hbw := stepB hbw hN2.2
  clear hN2 HTk
  go_wp2_with fail
  refine (pmac_any _ _ K (tgI a b) _ (HT.out.kept hbw) ht h2 HTL.out).mono ?_
  rintro e w3 ⟨v3, rfl, hN3⟩
  rw [← HE.out] at hN3
  go_wp2
  go_ret2
  exact ⟨_, rfl, hN3.from hbw⟩

set_option maxHeartbeats 1000000 in
theorem aseal_arg (vk vn va vb : Value) (k n : List UInt8) (h : ¬ (k.length = 32 ∧ n.length = 12)) (w : World) (hk : Rd w vk k) (hn : Rd w vn n) :
    Calls Tryd.prog 49 #[vk, vn, va, vb] w fun e w' => e = .returned (.tuple #[.slice none 0 0, .int .i64 1]) ∧ w' = w := by
  have H : Hid (¬ (k.length = 32 ∧ n.length = 12)) := h
  have HK : Hid (Rd w vk k) := hk
  have HN : Hid (Rd w vn n) := hn
  clear h hk hn
  go_enter Tryd.func49, Tryd.ntmps49
  go_wp2_with fail
  refine (stream_arg _ _ _ k n _ _ HK.out HN.out H.out).mono ?_
  rintro e w ⟨rfl, rfl⟩
  go_wp2_with fail
  refine (atag_arg _ _ _ _ k n H.out _ HK.out HN.out).mono ?_
  rintro e w ⟨rfl, rfl⟩
  go_wp2
  go_ret2
  exact ⟨rfl, rfl⟩

set_option maxRecDepth 100000 in
set_option maxHeartbeats 2000000 in
theorem aseal_any (vk vn va vb : Value) (k n a b : List UInt8) (hk32 : k.length = 32) (hn12 : n.length = 12) (hla : a.length ≤ 3000000) (hlb : b.length ≤ 3000000) (w : World) (hP : PlT w) (hT : KpT w) (hk : Rd w vk k) (hn : Rd w vn n) (ha : Rd w va a) (hb : Rd w vb b) :
    Calls Tryd.prog 49 #[vk, vn, va, vb] w fun e w' => ∃ r, e = .returned (.tuple #[r, .int .i64 0]) ∧ New 5 w r (seL k n a b) w' := by
  have HK : Hid (k.length = 32) := hk32
  have HN : Hid (n.length = 12) := hn12
  have HA : Hid (a.length ≤ 3000000) := hla
  have HB : Hid (b.length ≤ 3000000) := hlb
  have HP : Hid (PlT w) := hP
  have HT : Hid (KpT w) := hT
  clear hk32 hn12 hla hlb hP hT
  go_enter Tryd.func49, Tryd.ntmps49
  go_wp2_with fail
  refine (stream_any _ _ _ k n b 1 _ rfl (by decide) _ HP.out hk hn hb HK.out HN.out (by have := HB.out; omega)).mono ?_
  rintro e w1 ⟨v1, rfl, hN1⟩
  replace hk := hk.kept hN1.2
  replace hn := hn.kept hN1.2
  replace ha := ha.kept hN1.2
  have h1 := hN1.rd
  have hbw := hN1.2
  have HL1 : Hid ((smL k 1 n b).length = b.length) := smL_length k 1 n b
  have HE : Hid (seL k n a b = smL k 1 n b ++ tgL k n a (smL k 1 n b)) := rfl
  generalize smL k 1 n b = s at h1 HL1 HE
  clear hN1 hb
  go_wp2_with fail
  refine (atag_any _ _ _ _ k n a s HK.out HN.out HA.out (by rw [HL1.out]; exact HB.out) _ (HP.out.kept hbw) (HT.out.kept hbw) hk hn ha h1).mono ?_
  rintro e w2 ⟨v2, rfl, hN2⟩
  replace h1 := h1.kept hN2.2
  have h2 := hN2.rd
  replace hbw := stepB hbw hN2.2
  have HL2 : Hid ((tgL k n a s).length = 16) := mcP_length _ _
  generalize tgL k n a s = t at h2 HL2 HE
  clear hN2 hk hn ha
  obtain ⟨a1, c1, rfl, -⟩ := id h1
  obtain ⟨a2, c2, rfl, -⟩ := id h2
  go_wp2_with fail
  refine (join_any _ _ _ _ (RdL.pair8 (e := 40) rfl h1 h2) (by have := HL1.out; have := HL2.out; have := HB.out; simp [totL]; omega)).mono ?_
  rintro e w3 ⟨v3, rfl, hN3⟩
  replace hN3 := hN3.pair8
  rw [← HE.out] at hN3
  go_wp2
  go_ret2
  exact ⟨_, rfl, hN3.from (stepB hbw (growB _))⟩

set_option maxHeartbeats 1000000 in
theorem aopen_arg (vk vn va vb : Value) (k n : List UInt8) (h : ¬ (k.length = 32 ∧ n.length = 12)) (w : World) (hk : Rd w vk k) (hn : Rd w vn n) :
    Calls Tryd.prog 54 #[vk, vn, va, vb] w fun e w' => e = .returned (.tuple #[.slice none 0 0, .int .i64 1]) ∧ w' = w := by
  have hd : decide (k.length = 32 ∧ n.length = 12) = false := decide_eq_false h
  have HD : Hid _ := hd
  have HK : Hid (Rd w vk k) := hk
  have HN : Hid (Rd w vn n) := hn
  clear hd h hk hn
  go_enter Tryd.func54, Tryd.ntmps54
  go_wp2_with fail
  refine (afit_any _ _ k n _ HK.out HN.out).mono ?_
  rintro e w2 ⟨rfl, rfl⟩
  rw [HD.out]
  go_wp2
  go_ret2
  exact ⟨rfl, rfl⟩

set_option maxHeartbeats 1000000 in
theorem aopen_short (vk vn va vb : Value) (k n b : List UInt8) (hk32 : k.length = 32) (hn12 : n.length = 12) (hlb : b.length < 16) (w : World) (hk : Rd w vk k) (hn : Rd w vn n) (hb : Rd w vb b) :
    Calls Tryd.prog 54 #[vk, vn, va, vb] w fun e w' => e = .returned (.tuple #[.slice none 0 0, .int .i64 13]) ∧ w' = w := by
  have HD : Hid (decide (k.length = 32 ∧ n.length = 12) = true) := decide_eq_true ⟨hk32, hn12⟩
  have HK : Hid (Rd w vk k) := hk
  have HN : Hid (Rd w vn n) := hn
  obtain ⟨ab, cb, rfl, -, hmb, -, -⟩ := id hb
  have d5 : decide ((b.length : Int) < 16) = true := decide_eq_true (by omega)
  clear hk32 hn12 hk hn
  go_enter Tryd.func54, Tryd.ntmps54
  go_wp2_with fail
  refine (afit_any _ _ k n _ HK.out HN.out).mono ?_
  rintro e w2 ⟨rfl, rfl⟩
  rw [HD.out]
  go_wp2
  go_ret2
  exact ⟨rfl, rfl⟩

set_option maxRecDepth 100000 in
set_option maxHeartbeats 2000000 in
theorem aopen_any (vk vn va vb : Value) (k n a c t : List UInt8) (hk32 : k.length = 32) (hn12 : n.length = 12) (hla : a.length ≤ 3000000) (hlc : c.length ≤ 3000000) (ht : t.length = 16) (w : World) (hP : PlT w) (hT : KpT w) (hk : Rd w vk k) (hn : Rd w vn n) (ha : Rd w va a) (hb : Rd w vb (c ++ t)) :
    Calls Tryd.prog 54 #[vk, vn, va, vb] w fun e w' => (tgL k n a c = t → ∃ r, e = .returned (.tuple #[r, .int .i64 0]) ∧ New 5 w r (smL k 1 n c) w') ∧ (tgL k n a c ≠ t → e = .returned (.tuple #[.slice none 0 0, .int .i64 10]) ∧ Below w.heap.size w w') := by
  have HD : Hid (decide (k.length = 32 ∧ n.length = 12) = true) := decide_eq_true ⟨hk32, hn12⟩
  obtain ⟨bb, ob, cb, rfl, hcb, -, -⟩ := hb.cellAt (i := 0) (by rw [List.length_append]; omega)
  have hlen : (c ++ t).length = c.length + 16 := by rw [List.length_append, ht]
  obtain ⟨m, hm⟩ : ∃ m : Nat, m = c.length := ⟨_, rfl⟩
  rw [hlen, ← hm] at hb hcb ⊢
  have hC := hb.take (n := m) (by omega)
  have hS := hb.sub m (m + 16) (by omega) (Nat.le_refl _)
  rw [show (c ++ t).take m = c by rw [hm, List.take_left]] at hC
  rw [show m + 16 - m = 16 by omega, show ((c ++ t).drop m).take 16 = t by rw [hm, List.drop_left, ← ht, List.take_length]] at hS
  have HK : Hid (Rd w vk k) := hk
  have HN : Hid (Rd w vn n) := hn
  have HA : Hid (Rd w va a) := ha
  have HC : Hid (Rd w (.slice (some ⟨bb, ob, none⟩) m cb) c) := hC
  have HS : Hid (Rd w (.slice (some ⟨bb, ob + m, none⟩) 16 (cb - m)) t) := hS
  have H1 : Hid (k.length = 32) := hk32
  have H2 : Hid (n.length = 12) := hn12
  have HLA : Hid (a.length ≤ 3000000) := hla
  have HLC : Hid (c.length ≤ 3000000) := hlc
  have HP : Hid (PlT w) := hP
  have HT : Hid (KpT w) := hT
  have hmm : m ≤ 3000000 := by omega
  have hcm : ¬ cb = m := by omega
  have hcm2 : m ≤ cb := by omega
  have hcm3 : m ≤ m + 16 := by omega
  have hcm4 : m + 16 ≤ cb := hcb
  have hcm5 : m + 16 - m = 16 := by omega
  have hcm6 : (m : Int) ≤ (m : Int) + 16 := by omega
  have d3 : decide (((m + 16 : Nat) : Int) < 16) = false := decide_eq_false (by omega)
  have e16 : ((m + 16 : Nat) : Int) - 16 = (m : Int) := by omega
  clear hk32 hn12 hla hlc hlen hm hP hT hk hn ha hC hS hb ht
  go_enter Tryd.func54, Tryd.ntmps54
  go_wp2_with fail
  refine (afit_any _ _ k n _ HK.out HN.out).mono ?_
  rintro e w ⟨rfl, rfl⟩
  rw [HD.out]
  go_wp2_with fail
  refine (atag_any _ _ _ _ k n a c H1.out H2.out HLA.out HLC.out _ HP.out HT.out HK.out HN.out HA.out HC.out).mono ?_
  rintro e w1 ⟨v1, rfl, hN1⟩
  have h1 := hN1.rd
  have hbw := hN1.2
  obtain ⟨X, hX⟩ : ∃ X : List UInt8, X = tgL k n a c := ⟨_, rfl⟩
  rw [← hX] at h1
  have HX : Hid (X = tgL k n a c) := hX
  clear hN1 hX
  go_wp2_with fail
  refine (equal_any _ _ X t _ h1 (HS.out.kept hbw)).mono ?_
  rintro e w2 ⟨rfl, hb2⟩
  replace hbw := stepB hbw hb2
  obtain ⟨q, hq⟩ : ∃ q : Bool, decide (X = t) = q := ⟨_, rfl⟩
  rw [hq]
  clear h1 hb2
  cases q
  · have HQ : Hid (tgL k n a c ≠ t) := by show _ ≠ _; rw [← HX.out]; exact of_decide_eq_false hq
    clear hq
    go_wp2
    go_ret2
    exact ⟨fun h => absurd h HQ.out, fun _ => ⟨rfl, hbw⟩⟩
  · have HQ : Hid (tgL k n a c = t) := by show _ = _; rw [← HX.out]; exact of_decide_eq_true hq
    clear hq
    go_wp2_with fail
    refine (stream_any _ _ _ k n c 1 _ rfl (by decide) _ (HP.out.kept hbw) (HK.out.kept hbw) (HN.out.kept hbw) (HC.out.kept hbw) H1.out H2.out (by have := HLC.out; omega)).mono ?_
    rintro e w3 ⟨v3, rfl, hN3⟩
    go_wp2
    go_ret2
    exact ⟨fun _ => ⟨_, rfl, hN3.from hbw⟩, fun h => absurd HQ.out h⟩
end Go.Proofs.YtliiofjcghdjoaaDoor
