/- What Mac of package hkdf answers: the document's code. -/
import Derived.Test.YtfiefohdceokdaaDoorH04a
namespace Go.Proofs.YtfiefohdceokdaaDoor
open Go.ChangeShapes Go.WideShapes Go.ChangeAt Go.RowKit
set_option linter.unusedSimpArgs false
set_option linter.unusedVariables false

theorem RdL.lit2 {w : World} {e : TypeId} {v1 v2 : Value} {l1 l2 : List UInt8} (h1 : Rd w v1 l1) (h2 : Rd w v2 l2) : RdL (w.alloc (.cells #[v1, v2] e)) (.slice (some ⟨w.heap.size, 0, none⟩) 2 2) [v1, v2] [l1, l2] :=
  RdL.lit _ _ rfl rfl rfl (by simp [maxLen]) rfl (fun i hi => by
    match i with
    | 0 => exact h1
    | 1 => exact h2
    | i + 2 => exact absurd hi (by simp))
theorem New.two {e : TypeId} {w w' : World} {v : Value} {l1 l2 : List UInt8} (h : New e w v [l1, l2].flatten w') : New e w v (l1 ++ l2) w' := by
  simpa using h

set_option maxRecDepth 100000 in
set_option maxHeartbeats 2000000 in
theorem mac_any (vk vb : Value) (k b : List UInt8) (hbl : b.length ≤ 100000) (w : World) (hrk : Rd w vk k) (hrb : Rd w vb b) (ht : Tabs w) :
    Calls Tryd.prog 16 #[vk, vb] w fun e w' => ∃ v, e = .returned v ∧ New 5 w v (mcF k b) w' := by
  have HK : Hid ((kyL k).length = 136) := kyL_length k
  have HZ : Hid (zs136.length = 136) := zs136_length
  have HI : Hid ((mxP (kyL k) 54 136).length = 136) := mxP_length _ _ _
  have HO : Hid ((mxP (kyL k) 92 136).length = 136) := mxP_length _ _ _
  have HF : Hid (s2L (mxP (kyL k) 92 136 ++ s2L (mxP (kyL k) 54 136 ++ b)) = mcF k b) := rfl
  have HB : Hid (b.length ≤ 100000) := hbl
  clear hbl
  go_enter Tryd.func16, Tryd.ntmps16
  go_wp2_with fail
  refine (lay_any _ k _ hrk ht).mono ?_
  rintro e w1 ⟨rfl, b1⟩
  go_wp2_with (refine wpList_alloc_row (k := .u8) rfl 35 rfl (byI zs136) (alloc136 _) (ne136 HZ.out) (max136 HZ.out) ?_)
  intro w2 r2 b2 s2
  rw [byI_length, HZ.out] at r2
  go_wp2_with (refine wpList_store_row rfl 35 _ _ rfl (byI (kyL k)) rfl rfl r2 (by rw [byI_length, byI_length, HZ.out, HK.out]) (info136 HZ.out) ?_)
  intro w3 r3 hw3
  have b13 := hw3.below _ _ (Nat.le_refl _) b2
  have b3 := stepB b1 b13
  have z3 := r3.lt
  clear r2 b2 s2 hw3 b1 b13
  go_wp2_with (refine wpList_load_row rfl 35 _ rfl rfl r3 _ Tryd.underlying35 rfl (info136 HK.out) ?_)
  refine (add_any _ (kyL k) HK.out rfl 54 54 rfl _).mono ?_
  rintro e w4 ⟨rfl, b4⟩
  have r4 := r3.kept b4
  have z4 := b4.size
  clear r3
  go_wp2_with (refine wpList_alloc_row (k := .u8) rfl 35 rfl (byI zs136) (alloc136 _) (ne136 HZ.out) (max136 HZ.out) ?_)
  intro w5 r5 b5 s5
  rw [byI_length, HZ.out] at r5
  have r45 := r4.kept b5
  go_wp2_with (refine wpList_store_row rfl 35 _ _ rfl (byI (mxP (kyL k) 54 136)) rfl rfl r5 (by rw [byI_length, byI_length, HZ.out, HI.out]) (info136 HZ.out) ?_)
  intro w6 r6 hw6
  have b46 := hw6.below _ _ (Nat.le_refl _) b5
  have b6 := stepB (stepB b3 b4) b46
  have z6 := r6.lt
  have r46 := r45.wrote hw6 (by omega)
  clear r45 r5 b5 s5 hw6 b46 b3 b4 r4
  go_wp2_with (refine wpList_load_row rfl 35 _ rfl rfl r46 _ Tryd.underlying35 rfl (info136 HK.out) ?_)
  refine (add_any _ (kyL k) HK.out rfl 92 92 rfl _).mono ?_
  rintro e w7 ⟨rfl, b7⟩
  have r7 := r6.kept b7
  have z7 := b7.size
  clear r6 r46
  go_wp2_with (refine wpList_alloc_row (k := .u8) rfl 35 rfl (byI zs136) (alloc136 _) (ne136 HZ.out) (max136 HZ.out) ?_)
  intro w8 r8 b8 s8
  rw [byI_length, HZ.out] at r8
  have r78 := r7.kept b8
  go_wp2_with (refine wpList_store_row rfl 35 _ _ rfl (byI (mxP (kyL k) 92 136)) rfl rfl r8 (by rw [byI_length, byI_length, HZ.out, HO.out]) (info136 HZ.out) ?_)
  intro w9 r9 hw9
  have b79 := hw9.below _ _ (Nat.le_refl _) b8
  have b9 := stepB (stepB b6 b7) b79
  have r79 := r78.wrote hw9 (by omega)
  have hrb9 := hrb.kept b9
  have ht9 := ht.kept b9
  have hI9 := r79.rdB
  have hO9 := r9.rdB
  rw [HI.out] at hI9
  rw [HO.out] at hO9
  have hB : b.length ≤ 100000 := HB.out
  generalize hgI : mxP (kyL k) 54 136 = lI at HI HF hI9
  generalize hgO : mxP (kyL k) 92 136 = lO at HO HF hO9
  clear r78 r8 b8 s8 hw9 b79 b6 b7 r7 r79 r9 hrb hrk ht hgI hgO z3 z4 z6 z7
  have HB9 : Hid _ := b9
  clear b9 HZ HK
  obtain ⟨ab, cb, rfl, -, -, -, -⟩ := id hrb9
  have hL1 := RdL.lit2 (e := 22) hI9.drew hrb9.drew
  have g1 := growB (w := w9.drew) (.cells #[.slice (some ⟨w4.heap.size, 0, none⟩) 136 136, .slice ab b.length cb] 22)
  have ht10 := (ht9.kept (Below.refl _ _).drew).kept g1
  have hO10 := hO9.drew.kept g1
  have h1 : totL [lI, b] ≤ 1000000000 := by have := HI.out; simp [totL]; omega
  have HT1 : Hid _ := h1
  clear h1 hI9 hrb9 ht9 hO9 hB
  go_wp2_with fail
  refine wpG_begin (by kernel_rfl) ?_
  refine gU_ 0 rfl ⟨_, by intro W hW; go_simp <;> with_reducible rfl, ?_⟩
  try simp only [Act.put, pA_, pB_, pC_]
  refine gU_ 1 rfl ⟨_, by intro W hW; go_simp <;> with_reducible rfl, ?_⟩
  try simp only [Act.put, pA_, pB_, pC_]
  refine gU_ 2 rfl ⟨_, by intro W hW; go_simp <;> with_reducible rfl, ?_⟩
  try simp only [Act.put, pA_, pB_, pC_]
  refine gD_ 3 fun K hK => ?_
  go_simp
  refine hK.out _ _ g1 ?_
  clear hK K
  try simp only [Act.put, pA_, pB_, pC_]
  refine gD_ 4 fun K hK => ?_
  go_simp
  refine (join_any _ _ _ _ hL1 HT1.out).mono ?_
  rintro e w11 ⟨v11, rfl, hN11⟩
  refine hK.out _ _ hN11.2 ?_
  clear hK K
  have ht11 := ht10.kept hN11.2
  have hO11 := hO10.kept hN11.2
  have g11 := stepB g1 hN11.2
  have hR11 := hN11.two.rd
  try simp only [Act.put, pA_, pB_, pC_]
  refine gD_ 5 fun K hK => ?_
  go_simp
  refine (sum256_any _ (lI ++ b) _ hR11 ht11).mono ?_
  rintro e w12 ⟨v12, rfl, hN12⟩
  refine hK.out _ _ hN12.2 ?_
  clear hK K
  have ht12 := ht11.kept hN12.2
  have hO12 := hO11.kept hN12.2
  have g12 := stepB g11 hN12.2
  have hR12 : Rd w12 v12 (s2L (lI ++ b)) := hN12.rd
  obtain ⟨a12, c12, rfl, -, -, -, -⟩ := id hR12
  have hL2 := RdL.lit2 (e := 22) hO12 hR12
  have g2 := growB (w := w12) (.cells #[.slice (some ⟨w7.heap.size, 0, none⟩) 136 136, .slice a12 (s2L (lI ++ b)).length c12] 22)
  have ht13 := ht12.kept g2
  have h2 : totL [lO, s2L (lI ++ b)] ≤ 1000000000 := by have := HO.out; simp [totL, s2L_length]; omega
  have HT2 : Hid _ := h2
  clear h2
  try simp only [Act.put, pA_, pB_, pC_]
  refine gD_ 6 fun K hK => ?_
  go_simp
  refine hK.out _ _ g2 ?_
  clear hK K
  try simp only [Act.put, pA_, pB_, pC_]
  refine gD_ 7 fun K hK => ?_
  go_simp
  refine (join_any _ _ _ _ hL2 HT2.out).mono ?_
  rintro e w14 ⟨v14, rfl, hN14⟩
  refine hK.out _ _ hN14.2 ?_
  clear hK K
  have ht14 := ht13.kept hN14.2
  have g14 := stepB (stepB g12 g2) hN14.2
  have hR14 := hN14.two.rd
  try simp only [Act.put, pA_, pB_, pC_]
  refine gD_ 8 fun K hK => ?_
  go_simp
  refine (sum256_any _ (lO ++ s2L (lI ++ b)) _ hR14 ht14).mono ?_
  rintro e w15 ⟨v15, rfl, hN15⟩
  refine hK.out _ _ hN15.2 ?_
  clear hK K
  try simp only [Act.put, pA_, pB_, pC_]
  refine gU_ 9 rfl ⟨_, by intro W hW; go_simp <;> with_reducible rfl, ?_⟩
  try simp only [Act.put, pA_, pB_, pC_]
  refine wpG_done (by kernel_rfl) ?_
  go_wp2
  go_ret
  refine ⟨_, rfl, ?_⟩
  rw [← HF.out]
  exact hN15.from (stepB HB9.out.drew g14)
end Go.Proofs.YtfiefohdceokdaaDoor
