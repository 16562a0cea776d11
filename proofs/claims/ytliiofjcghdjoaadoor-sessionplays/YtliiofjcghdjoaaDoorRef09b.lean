/- What the document's own sealing and opening answer: contracts of the reference of layer 9, second part. -/
import Derived.Test.YtliiofjcghdjoaaDoorRef09a
import Derived.Test.YtliiofjcghdjoaaDoorBase
import Derived.OwnWalk
namespace Go.Proofs.YtliiofjcghdjoaaDoor
open Go.ChangeShapes Go.WideShapes Go.ChangeAt Go.RowKit
set_option linter.unusedSimpArgs false
set_option linter.unusedVariables false

theorem conv9 {w : World} {v : Value} {l : List UInt8} (h : Rd w v l) : (convert 40 9 v).run Tryd.prog w = .ok (.string ⟨l.toArray⟩) w :=
  h.conv Tryd.underlying40 Tryd.underlying5 Tryd.underlying9

set_option maxHeartbeats 1000000 in
theorem sealR_arg (vk vn va vb : Value) (k n : List UInt8) (h : ¬ (k.length = 32 ∧ n.length = 12)) (w : World) (hk : Rd w vk k) (hn : Rd w vn n) :
    Calls Tryd.prog 40 #[vk, vn, va, vb] w fun e w' => e = .returned (.tuple #[.slice none 0 0, .int .i64 1]) ∧ w' = w := by
  obtain ⟨ak, ck, rfl, -, hmk, -, -⟩ := id hk
  obtain ⟨an, cn, rfl, -, hmn, -, -⟩ := id hn
  by_cases h1 : k.length = 32
  · have d1 : ((k.length : Int) != 32) = false := by simp; omega
    have d2 : ((n.length : Int) != 12) = true := by simp; omega
    clear h h1
    go_enter Tryd.func40, Tryd.ntmps40
    go_wp2
    go_ret2
    exact ⟨rfl, rfl⟩
  · have d1 : ((k.length : Int) != 32) = true := by simp; omega
    clear h h1
    go_enter Tryd.func40, Tryd.ntmps40
    go_wp2
    go_ret2
    exact ⟨rfl, rfl⟩

set_option maxRecDepth 100000 in
set_option maxHeartbeats 2000000 in
theorem sealR_any (vk vn va vb : Value) (k n a b : List UInt8) (hk32 : k.length = 32) (hn12 : n.length = 12) (hla : a.length ≤ 3000000) (hlb : b.length ≤ 3000000) (w : World) (hk : Rd w vk k) (hn : Rd w vn n) (ha : Rd w va a) (hb : Rd w vb b) :
    Calls Tryd.prog 40 #[vk, vn, va, vb] w fun e w' => ∃ r, e = .returned (.tuple #[r, .int .i64 0]) ∧ New 5 w r (seL k n a b) w' := by
  obtain ⟨ak, ck, rfl, -, hmk, -, -⟩ := id hk
  obtain ⟨an, cn, rfl, -, hmn, -, -⟩ := id hn
  have d1 : ((k.length : Int) != 32) = false := by simp; omega
  have d2 : ((n.length : Int) != 12) = false := by simp; omega
  have HK : Hid (k.length = 32) := hk32
  have HN : Hid (n.length = 12) := hn12
  have HA : Hid (a.length ≤ 3000000) := hla
  have HB : Hid (b.length ≤ 3000000) := hlb
  clear hk32 hn12 hla hlb hmk hmn
  go_enter Tryd.func40, Tryd.ntmps40
  go_wp2_with fail
  refine (streamR_any _ _ _ k n b 1 _ rfl (by decide) _ hk hn hb HK.out HN.out (by have := HB.out; omega)).mono ?_
  rintro e w1 ⟨v1, rfl, hN1⟩
  replace hk := hk.kept hN1.2
  replace hn := hn.kept hN1.2
  replace ha := ha.kept hN1.2
  have h1 := hN1.rd
  have hbw := hN1.2
  have HL1 : Hid ((smL k 1 n b).length = b.length) := smL_length k 1 n b
  have HE : Hid (seL k n a b = smL k 1 n b ++ tgL k n a (smL k 1 n b)) := rfl
  generalize smL k 1 n b = s at h1 HL1 HE
  clear hN1 hb
  go_wp2_with fail
  refine (tagR_any _ _ _ _ k n a s HK.out HN.out HA.out (by rw [HL1.out]; exact HB.out) _ hk hn ha h1).mono ?_
  rintro e w2 ⟨v2, rfl, hN2⟩
  replace h1 := h1.kept hN2.2
  have h2 := hN2.rd
  replace hbw := stepB hbw hN2.2
  have HL2 : Hid ((tgL k n a s).length = 16) := mcP_length _ _
  generalize tgL k n a s = t at h2 HL2 HE
  clear hN2 hk hn ha
  go_wp2_with fail
  refine (joinR_any _ _ s t (by rw [HL1.out, HL2.out]; have := HB.out; omega) _ h1 h2).mono ?_
  rintro e w3 ⟨v3, rfl, hN3⟩
  rw [← HE.out] at hN3
  go_wp2
  go_ret2
  exact ⟨_, rfl, hN3.from hbw⟩

/-! ### Opening -/
set_option maxHeartbeats 1000000 in
theorem openR_arg (vk vn va vb : Value) (k n : List UInt8) (h : ¬ (k.length = 32 ∧ n.length = 12)) (w : World) (hk : Rd w vk k) (hn : Rd w vn n) :
    Calls Tryd.prog 46 #[vk, vn, va, vb] w fun e w' => e = .returned (.tuple #[.slice none 0 0, .int .i64 1]) ∧ w' = w := by
  obtain ⟨ak, ck, rfl, -, hmk, -, -⟩ := id hk
  obtain ⟨an, cn, rfl, -, hmn, -, -⟩ := id hn
  by_cases h1 : k.length = 32
  · have d1 : ((k.length : Int) != 32) = false := by simp; omega
    have d2 : ((n.length : Int) != 12) = true := by simp; omega
    clear h h1
    go_enter Tryd.func46, Tryd.ntmps46
    go_wp2
    go_ret2
    exact ⟨rfl, rfl⟩
  · have d1 : ((k.length : Int) != 32) = true := by simp; omega
    clear h h1
    go_enter Tryd.func46, Tryd.ntmps46
    go_wp2
    go_ret2
    exact ⟨rfl, rfl⟩
set_option maxHeartbeats 1000000 in
theorem openR_short (vk vn va vb : Value) (k n b : List UInt8) (hk32 : k.length = 32) (hn12 : n.length = 12) (hlb : b.length < 16) (w : World) (hk : Rd w vk k) (hn : Rd w vn n) (hb : Rd w vb b) :
    Calls Tryd.prog 46 #[vk, vn, va, vb] w fun e w' => e = .returned (.tuple #[.slice none 0 0, .int .i64 13]) ∧ w' = w := by
  obtain ⟨ak, ck, rfl, -, hmk, -, -⟩ := id hk
  obtain ⟨an, cn, rfl, -, hmn, -, -⟩ := id hn
  obtain ⟨ab, cb, rfl, -, hmb, -, -⟩ := id hb
  have d1 : ((k.length : Int) != 32) = false := by simp; omega
  have d2 : ((n.length : Int) != 12) = false := by simp; omega
  have d3 : (b.length : Int) - 16 < 0 := by omega
  have d4 : decide ((b.length : Int) - 16 < 0) = true := decide_eq_true d3
  have d5 : decide ((b.length : Int) < 16) = true := decide_eq_true (by omega)
  go_enter Tryd.func46, Tryd.ntmps46
  go_wp2
  go_ret2
  exact ⟨rfl, rfl⟩
set_option maxRecDepth 100000 in
set_option maxHeartbeats 2000000 in
theorem openR_any (vk vn va vb : Value) (k n a c t : List UInt8) (hk32 : k.length = 32) (hn12 : n.length = 12) (hla : a.length ≤ 3000000) (hlc : c.length ≤ 3000000) (ht : t.length = 16) (w : World) (hk : Rd w vk k) (hn : Rd w vn n) (ha : Rd w va a) (hb : Rd w vb (c ++ t)) :
    Calls Tryd.prog 46 #[vk, vn, va, vb] w fun e w' => (tgL k n a c = t → ∃ r, e = .returned (.tuple #[r, .int .i64 0]) ∧ New 5 w r (smL k 1 n c) w') ∧ (tgL k n a c ≠ t → e = .returned (.tuple #[.slice none 0 0, .int .i64 10]) ∧ Below w.heap.size w w') := by
  obtain ⟨ak, ck, rfl, -, hmk, -, -⟩ := id hk
  obtain ⟨an, cn, rfl, -, hmn, -, -⟩ := id hn
  obtain ⟨bb, ob, cb, rfl, hcb, -, -⟩ := hb.cellAt (i := 0) (by rw [List.length_append]; omega)
  have d1 : ((k.length : Int) != 32) = false := by simp; omega
  have d2 : ((n.length : Int) != 12) = false := by simp; omega
  have hlen : (c ++ t).length = c.length + 16 := by rw [List.length_append, ht]
  obtain ⟨m, hm⟩ : ∃ m : Nat, m = c.length := ⟨_, rfl⟩
  rw [hlen, ← hm] at hb hcb ⊢
  have hC := hb.take (n := m) (by omega)
  have hT := hb.sub m (m + 16) (by omega) (Nat.le_refl _)
  rw [show (c ++ t).take m = c by rw [hm, List.take_left]] at hC
  rw [show m + 16 - m = 16 by omega, show ((c ++ t).drop m).take 16 = t by rw [hm, List.drop_left, ← ht, List.take_length]] at hT
  have HK : Hid (k.length = 32) := hk32
  have HN : Hid (n.length = 12) := hn12
  have HA : Hid (a.length ≤ 3000000) := hla
  have HC : Hid (c.length ≤ 3000000) := hlc
  have hmm : m ≤ 3000000 := by omega
  have hcm : ¬ cb = m := by omega
  have hcm2 : m ≤ cb := by omega
  have hcm3 : m ≤ m + 16 := by omega
  have hcm4 : m + 16 ≤ cb := hcb
  have hcm5 : m + 16 - m = 16 := by omega
  have hcm6 : (m : Int) ≤ (m : Int) + 16 := by omega
  have d3 : decide ((m : Int) < 0) = false := decide_eq_false (by omega)
  have e16 : ((m + 16 : Nat) : Int) - 16 = (m : Int) := by omega
  replace hk := hk.drew
  replace hn := hn.drew
  clear hk32 hn12 hla hlc hmk hmn hlen hm
  have hs0 : ∀ a : List UInt8, (⟨a.toArray⟩ : ByteArray).toList = a := str_toList
  obtain ⟨X, hX⟩ : ∃ X : List UInt8, X = tgL k n a c := ⟨_, rfl⟩
  rw [← hX]
  have HX : Hid (X = tgL k n a c) := hX
  obtain ⟨q, hq⟩ : ∃ q : Bool, (X == t) = q := ⟨_, rfl⟩
  have HKD : Hid (Rd _ _ _) := hk
  have HND : Hid (Rd _ _ _) := hn
  have HAD : Hid (Rd _ _ _) := ha.drew
  have HCD : Hid (Rd _ _ _) := hC.drew
  have HTD : Hid (Rd _ _ _) := hT.drew
  clear hX hk hn ha hC hT hb ht
  go_enter Tryd.func46, Tryd.ntmps46
  go_wp2_with fail
  refine wpG_begin (by kernel_rfl) ?_
  refine gU_ 0 rfl ⟨_, by intro W hW; go_simp <;> with_reducible rfl, ?_⟩
  try simp only [Act.put, pA_, pB_, pC_]
  refine gU_ 1 rfl ⟨_, by intro W hW; go_simp <;> with_reducible rfl, ?_⟩
  try simp only [Act.put, pA_, pB_, pC_]
  refine gU_ 2 rfl ⟨_, by intro W hW; go_simp <;> with_reducible rfl, ?_⟩
  try simp only [Act.put, pA_, pB_, pC_]
  refine gU_ 3 rfl ⟨_, by intro W hW; go_simp <;> with_reducible rfl, ?_⟩
  try simp only [Act.put, pA_, pB_, pC_]
  refine gU_ 4 rfl ⟨_, by intro W hW; go_simp <;> with_reducible rfl, ?_⟩
  try simp only [Act.put, pA_, pB_, pC_]
  refine gU_ 5 rfl ⟨_, by intro W hW; go_simp <;> with_reducible rfl, ?_⟩
  try simp only [Act.put, pA_, pB_, pC_]
  refine gU_ 8 rfl ⟨_, by intro W hW; go_simp <;> with_reducible rfl, ?_⟩
  try simp only [Act.put, pA_, pB_, pC_]
  refine gU_ 9 rfl ⟨_, by intro W hW; go_simp <;> with_reducible rfl, ?_⟩
  try simp only [Act.put, pA_, pB_, pC_]
  refine gU_ 10 rfl ⟨_, by intro W hW; go_simp <;> with_reducible rfl, ?_⟩
  try simp only [Act.put, pA_, pB_, pC_]
  refine gU_ 11 rfl ⟨_, by intro W hW; have hcv := conv9 (HTD.out.kept hW); go_simp <;> with_reducible rfl, ?_⟩
  try simp only [Act.put, pA_, pB_, pC_]
  refine gD_ 6 fun K hK => ?_
  go_simp
  refine (tagR_any _ _ _ _ k n a c HK.out HN.out HA.out HC.out _ HKD.out HND.out HAD.out HCD.out).mono ?_
  rintro e w1 ⟨v1, rfl, hN1⟩
  refine hK.out _ _ hN1.2 ?_
  clear hK K
  have h1 := hN1.rd
  rw [← HX.out] at h1
  try simp only [Act.put, pA_, pB_, pC_]
  refine gU_ 7 rfl ⟨_, by intro W hW; have hcv := conv9 (h1.kept hW); go_simp <;> with_reducible rfl, ?_⟩
  try simp only [Act.put, pA_, pB_, pC_]
  refine gU_ 12 rfl ⟨_, by intro W hW; go_simp <;> with_reducible rfl, ?_⟩
  try simp only [Act.put, pA_, pB_, pC_]
  refine wpG_done (by kernel_rfl) ?_
  have hk := HKD.out.kept hN1.2
  have hn := HND.out.kept hN1.2
  have hC := HCD.out.kept hN1.2
  have hbw := hN1.2
  clear HKD HND HAD HCD HTD hN1 h1
  cases q
  · have hne : X ≠ t := fun h => by rw [h] at hq; simp at hq
    go_wp2
    go_ret2
    exact ⟨fun h => absurd h hne, fun _ => ⟨rfl, (Below.refl _ _).drew.trans (hbw.mono (Nat.le_refl _))⟩⟩
  · have heq : X = t := by simpa using hq
    have HQ : Hid _ := heq
    clear heq
    go_wp2_with fail
    refine (streamR_any _ _ _ k n c 1 _ rfl (by decide) _ hk hn hC HK.out HN.out (by have := HC.out; omega)).mono ?_
    rintro e w2 ⟨v2, rfl, hN2⟩
    go_wp2
    go_ret2
    exact ⟨fun _ => ⟨_, rfl, hN2.from ((Below.refl _ _).drew.trans (hbw.mono (Nat.le_refl _)))⟩, fun h => absurd HQ.out h⟩
end Go.Proofs.YtliiofjcghdjoaaDoor
