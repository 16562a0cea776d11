/- What was encrypted, decrypted: contracts of package kpke, ninth part. -/
import Derived.Test.YtmhbjaampobcbaaGreatDoorX13h
namespace Go.Proofs.YtmhbjaampobcbaaGreatDoor
open Go.ChangeShapes Go.WideShapes Go.ChangeAt Go.RowKit
set_option linter.unusedSimpArgs false
set_option linter.unusedVariables false

theorem spread_part (d n : Nat) (D : Int) (hD : D = (d : Int)) (h1 : 1 ≤ d) (h12 : d ≤ 12) (v : Value) (b : List UInt8) (hn : 96 * d ≤ n) (hb : n ≤ b.length) (hbl : b.length ≤ 900000) (w : World) (hr : Rd w v (b.take n)) :
  Calls Tryz.prog 67 #[.int .i64 D, v] w fun e w' => e = .returned (rwV fun i => spF d (ptF d b i)) ∧ Below w.heap.size w w' := by
 have h := spread_any d D hD h1 h12 v (b.take n) (by rw [List.length_take]; omega) (by rw [List.length_take]; omega) w hr
 have e : rwV (fun i => spF d (ptF d (b.take n) i)) = rwV (fun i => spF d (ptF d b i)) := by
  rw [rwV, show rwC (fun i => spF d (ptF d (b.take n) i)) = rwC (fun i => spF d (ptF d b i)) from prC13_congr 3 fun i hi => by
   rw [pt_take d i n b (by
    have : 32 * d * i ≤ 32 * d * 2 := Nat.mul_le_mul_left _ (by omega)
    omega)]]
 rw [e] at h
 exact h
theorem ninverse_to (f h : Nat → FZ) (hh : ∀ k, k < 256 → inw f k = h k) (w : World) (hT : PwT w) : Calls Tryz.prog 71 #[poV f] w fun e w' => e = .returned (poV h) ∧ Below w.heap.size w w' := by
 have h1 := ninverseQ f w hT
 have e : poV (inw f) = poV h := by rw [poV, fz_congr hh]
 rw [e] at h1
 exact h1
theorem nminus_to (f g h : Nat → FZ) (hh : (fun k => f k - g k) = h) (w : World) : Calls Tryz.prog 70 #[poV f, poV g] w fun e w' => e = .returned (poV h) ∧ Below w.heap.size w w' := by
 subst hh
 exact nminusQ f g w

set_option maxRecDepth 100000 in
set_option maxHeartbeats 8000000 in
theorem kdec_any (vk vc : Value) (dk c : List UInt8) (w : World) (hk : Rd w vk dk) (hc : Rd w vc c) (hkl : dk.length = 1152) (hcl : c.length = 1088) (hP : PwT w) :
  Calls Tryz.prog 33 #[vk, vc] w fun e w' => ∃ r, e = .returned (.tuple #[r, .int .i64 0]) ∧ New 5 w r (meL dk c) w' := by
 obtain ⟨ak, ck, rfl, -, -, -, -⟩ := id hk
 obtain ⟨a0, cc, ev, hcc, hmc, -, h5⟩ := id hc
 rcases h5 with h5 | ⟨bb, ob, rfl, -⟩
 ·rw [h5] at hcl
  simp at hcl
 subst ev
 rw [hkl] at hk ⊢
 rw [hcl] at hc hcc ⊢
 have hs := hc.sub 960 1088 (by omega) (by omega)
 have ht : (c.drop 960).take (1088 - 960) = c.drop 960 := by rw [List.take_of_length_le (by rw [List.length_drop, hcl]; decide)]
 rw [ht] at hs
 have h0 := hc.take (n := 960) (by omega)
 have HS : Hid (Rd w (.slice (some ⟨bb, ob + 960, none⟩) 128 (cc - 960)) (c.drop 960)) := hs
 have HC : Hid (Rd w (.slice (some ⟨bb, ob, none⟩) 960 cc) (c.take 960)) := h0
 have HK : Hid (Rd w (.slice ak 1152 ck) dk) := hk
 have HKl : Hid _ := hkl
 have HCl : Hid _ := hcl
 have HP : Hid (PwT w) := hP
 obtain ⟨sh, hsh⟩ : ∃ f : Nat → FZ, (fun k => spF 4 (upF 4 (c.drop 960)) k - wF dk c k) = f := ⟨_, rfl⟩
 have HSh : Hid _ := hsh
 have HM : Hid (pkL 1 (fzF (sqF 1 sh)) = meL dk c) := by
  show _ = _
  rw [sqF_val 1 (by decide), ← hsh]
  rfl
 unfold maxLen at hmc
 have y1 : ¬ cc = 960 := by omega
 have y2 : (1088 : Int) ≤ (cc : Int) := by omega
 have y3 : (960 : Int) ≤ (cc : Int) := by omega
 clear hk hc hs ht hkl hcl h0 hP hsh
 go_enter Tryz.func33, Tryz.ntmps33
 go_wp2_with fail
 refine (unpackedRow_any 12 _ rfl (by decide) (by decide) _ dk (by rw [HKl.out]; decide) (by rw [HKl.out]; decide) _ HK.out).mono ?_
 rintro e w1 ⟨rfl, b1⟩
 have hbw := b1
 have z1 := hbw.size
 clear b1
 go_wp2_with (refine wpList_alloc_blk rfl 60 rfl (rwC fun _ _ => 0) (allocW13 _) ?_)
 intro w2 r2 b2 s2
 replace hbw := stepB hbw b2
 clear b2 s2
 go_wp2_with (refine wpList_store_part rfl 60 _ _ rfl rfl (rwC (ptF 12 dk)) rfl [] (rwC fun _ _ => 0) [] (rwC (ptF 12 dk)) r2 (whole13 _) (whole13 _) rfl (by rw [prC13_length, prC13_length]) (infoW13 _) (rwC_all _) ?_)
 intro w3 rK hw3
 replace hbw := hw3.below _ _ z1 hbw
 clear r2 hw3 z1
 go_wp2_with fail
 refine (spread_part 10 960 _ rfl (by decide) (by decide) _ c (by decide) (by rw [HCl.out]; decide) (by rw [HCl.out]; decide) _ (Rd.kept HC.out hbw)).mono ?_
 rintro e w4 ⟨rfl, b4⟩
 replace rK := rK.kept b4
 replace hbw := stepB hbw b4
 have z4 := hbw.size
 have yK := rK.lt
 clear b4
 obtain ⟨us, hus⟩ : ∃ f : Nat → Nat → FZ, f = fun i => spF 10 (ptF 10 c i) := ⟨_, rfl⟩
 rw [← hus]
 have HUs : Hid _ := hus
 clear hus
 go_wp2_with (refine wpList_alloc_blk rfl 60 rfl (rwC fun _ _ => 0) (allocW13 _) ?_)
 intro w5 r5 b5 s5
 replace rK := rK.kept b5
 replace hbw := stepB hbw b5
 clear b5 s5
 go_wp2_with (refine wpList_store_part rfl 60 _ _ rfl rfl (rwC us) rfl [] (rwC fun _ _ => 0) [] (rwC us) r5 (whole13 _) (whole13 _) rfl (by rw [prC13_length, prC13_length]) (infoW13 _) (rwC_all _) ?_)
 intro w6 rU hw6
 replace rK := rK.wrote hw6 (by omega)
 replace hbw := hw6.below _ _ z4 hbw
 clear r5 hw6 z4 yK
 go_wp2_with fail
 refine (unpacked_any 4 _ rfl (by decide) (by decide) _ (c.drop 960) _ (Rd.kept HS.out hbw) (by rw [List.length_drop, HCl.out])).mono ?_
 rintro e w7 ⟨rfl, b7⟩
 replace rK := rK.kept b7
 replace rU := rU.kept b7
 replace hbw := stepB hbw b7
 clear b7
 go_wp2_with fail
 refine (sspreadQ 4 _ rfl (upF 4 (c.drop 960)) _).mono ?_
 rintro e w8 ⟨rfl, b8⟩
 replace rK := rK.kept b8
 replace rU := rU.kept b8
 replace hbw := stepB hbw b8
 have z8 := hbw.size
 have yK := rK.lt
 have yU := rU.lt
 clear b8
 obtain ⟨la, hla⟩ : ∃ f : Nat → FZ, f = spF 4 (upF 4 (c.drop 960)) := ⟨_, rfl⟩
 rw [← hla]
 have HLa : Hid _ := hla
 clear hla
 go_wp2_with (refine wpList_alloc_blk rfl 58 rfl (poC fun _ => 0) (allocP13 _) ?_)
 intro w9 r9 b9 s9
 replace rK := rK.kept b9
 replace rU := rU.kept b9
 replace hbw := stepB hbw b9
 clear b9 s9
 go_wp2_with (refine wpList_store_part rfl 58 _ _ rfl rfl (poC la) rfl [] (poC fun _ => 0) [] (poC la) r9 (whole13 _) (whole13 _) rfl (by rw [poC_length, poC_length]) (infoP13 _) (poC_all _) ?_)
 intro wa rL hwa
 replace rK := rK.wrote hwa (by omega)
 replace rU := rU.wrote hwa (by omega)
 replace hbw := hwa.below _ _ z8 hbw
 clear r9 hwa z8 yK yU
 have HSu : Hid (∀ k, k < 256 → inw (acF (fun _ => 0) (fun j => tm (ptF 12 dk j) (fwd (us j))) 3) k = wF dk c k) := by
  show ∀ k, _
  intro k hk
  rw [HUs.out]
  exact wF_by dk c k hk
 have HMi : Hid ((fun k => la k - wF dk c k) = sh) := by
  show _ = _
  rw [HLa.out]
  exact HSh.out
 obtain ⟨fu, hfu⟩ : ∃ f : Nat → Nat → FZ, (fun i => fwd (us i)) = f := ⟨_, rfl⟩
 obtain ⟨ac, hac⟩ : ∃ f : Nat → FZ, acF (fun _ => 0) (fun j => tm (ptF 12 dk j) (fu j)) 3 = f := ⟨_, rfl⟩
 have HFu : Hid _ := hfu
 have HAc : Hid _ := hac
 have HIn : Hid (∀ k, k < 256 → inw ac k = wF dk c k) := by
  show ∀ k, _
  rw [← hac, ← hfu]
  exact HSu.out
 clear hfu hac HSu HUs HLa HSh
 go_upto_region 6 with fail
 go_cut [9] (fun v wx => ∃ g : Nat, v = .pointer (some ⟨g, 0, none⟩) ∧ BlkAt g 58 (poC sh) wx ∧ Below wa.heap.size wa wx)
 case first =>
  have hB : Below wa.heap.size wa wa.drew := (Below.refl _ _).drew
  refine wpB_begin (Below.refl wa.heap.size wa) (by kernel_rfl) ?_
  refine wpB_t (hb := hB) (i := 0) (oi := ⟨some 27, .load 58 (.tmp 8), 58, "kpke.go:172", #[], none⟩) (v := ?_) ?_ ?_
  rotate_left
  ·intro W hW; refine Eq.trans (exec_load_part 58 _ (by rfl) (by rfl) [] (poC la) [] rL hW (whole13 _) rfl Tryz.underlying58 rfl (infoP13 _)) ?_; with_reducible rfl
  try simp only [Act.put, putA, putB, putC]
  refine wpB_t (hb := hB) (i := 1) (oi := ⟨some 28, .load 60 (.tmp 6), 60, "kpke.go:172", #[], none⟩) (v := ?_) ?_ ?_
  rotate_left
  ·intro W hW; refine Eq.trans (exec_load_part 60 _ (by rfl) (by rfl) [] (rwC (ptF 12 dk)) [] rK hW (whole13 _) rfl Tryz.underlying60 rfl (infoW13 _)) ?_; with_reducible rfl
  try simp only [Act.put, putA, putB, putC]
  refine wpB_t (hb := hB) (i := 2) (oi := ⟨some 29, .load 60 (.tmp 7), 60, "kpke.go:172", #[], none⟩) (v := ?_) ?_ ?_
  rotate_left
  ·intro W hW; refine Eq.trans (exec_load_part 60 _ (by rfl) (by rfl) [] (rwC us) [] rU hW (whole13 _) rfl Tryz.underlying60 rfl (infoW13 _)) ?_; with_reducible rfl
  try simp only [Act.put, putA, putB, putC]
  refine wpB_fork (i := 3) (j := 7) (oi := ⟨some 30, .call { callee := .value (.func 42), args := #[.tmp 29, .func 43], argTypes := #[60, 63] }, 60, "kpke.go:172", #[⟨2, .data⟩], none⟩) (oj := ⟨some 9, .alloc 58, 0, "kpke.go:172", #[], none⟩) (by kernel_rfl) rfl rfl (by rfl) (by rfl) (fun K hK => ?_) (fun K hK => ?_)
  ·go_simp
   refine (eachF_any _ us fu rfl HFu.out _ (HP.out.kept (stepB hbw hB))).mono ?_
   rintro e wq ⟨rfl, bq⟩
   replace hB := stepB hB bq
   try replace hG := hG.kept bq
   refine hK.out _ _ hB ?_
   clear hK K
   try simp only [Act.put, putA, putB, putC]
   refine wpB_fork (i := 4) (j := 7) (oi := ⟨some 31, .call { callee := .value (.func 72), args := #[.tmp 28, .tmp 30], argTypes := #[60, 60] }, 58, "kpke.go:172", #[⟨1, .data⟩, ⟨3, .data⟩, ⟨3, .chain⟩], none⟩) (oj := ⟨some 9, .alloc 58, 0, "kpke.go:172", #[], none⟩) (by kernel_rfl) rfl rfl (by rfl) (by rfl) (fun K hK => ?_) (fun K hK => ?_)
   ·go_simp
    refine (rtimes_to _ _ (ptF 12 dk) fu ac rfl rfl HAc.out _ (HP.out.kept (stepB hbw hB))).mono ?_
    rintro e wt ⟨rfl, bt⟩
    replace hB := stepB hB bt
    try replace hG := hG.kept bt
    refine hK.out _ _ hB ?_
    clear hK K
    try simp only [Act.put, putA, putB, putC]
    refine wpB_fork (i := 5) (j := 7) (oi := ⟨some 32, .call { callee := .value (.func 71), args := #[.tmp 31], argTypes := #[58] }, 58, "kpke.go:172", #[⟨4, .data⟩, ⟨4, .chain⟩], none⟩) (oj := ⟨some 9, .alloc 58, 0, "kpke.go:172", #[], none⟩) (by kernel_rfl) rfl rfl (by rfl) (by rfl) (fun K hK => ?_) (fun K hK => ?_)
    ·go_simp
     refine (ninverse_to ac (wF dk c) HIn.out _ (HP.out.kept (stepB hbw hB))).mono ?_
     rintro e wi ⟨rfl, bi⟩
     replace hB := stepB hB bi
     try replace hG := hG.kept bi
     refine hK.out _ _ hB ?_
     clear hK K
     try simp only [Act.put, putA, putB, putC]
     refine wpB_fork (i := 6) (j := 7) (oi := ⟨some 33, .call { callee := .value (.func 70), args := #[.tmp 27, .tmp 32], argTypes := #[58, 58] }, 58, "kpke.go:172", #[⟨0, .data⟩, ⟨5, .data⟩, ⟨5, .chain⟩], none⟩) (oj := ⟨some 9, .alloc 58, 0, "kpke.go:172", #[], none⟩) (by kernel_rfl) rfl rfl (by rfl) (by rfl) (fun K hK => ?_) (fun K hK => ?_)
     ·go_simp
      refine (nminus_to la (wF dk c) sh HMi.out _).mono ?_
      rintro e wm ⟨rfl, bm⟩
      replace hB := stepB hB bm
      try replace hG := hG.kept bm
      refine hK.out _ _ hB ?_
      clear hK K
      try simp only [Act.put, putA, putB, putC]
      refine wpB_do (i := 7) (o := ⟨some 9, .alloc 58, 0, "kpke.go:172", #[], none⟩) (by kernel_rfl) rfl (by rfl) fun K hK => ?_
      refine wp_alloc_blk2 hB 58 rfl (poC fun _ => 0) (allocP13 _) ?_
      intro g wN hG hge hBA hBc
      replace hB := hBA
      refine hK.out _ _ hB ?_
      clear hK K
      try simp only [Act.put, putA, putB, putC]
      refine wpB_do (i := 8) (o := ⟨none, .store 58 (.tmp 9) (.tmp 33), 0, "kpke.go:172", #[⟨7, .data⟩, ⟨6, .data⟩, ⟨6, .chain⟩, ⟨0, .phase⟩, ⟨1, .phase⟩, ⟨2, .phase⟩, ⟨3, .phase⟩, ⟨4, .phase⟩, ⟨5, .phase⟩, ⟨6, .phase⟩, ⟨7, .phase⟩], none⟩) (by kernel_rfl) rfl (by rfl) fun K hK => ?_
      refine wp_store_part 58 _ _ rfl rfl (poC sh) rfl [] (poC fun _ => 0) [] (poC sh) hG (whole13 _) (whole13 _) rfl (by rw [poC_length, poC_length]) (infoP13 _) (poC_all _) ?_
      intro wS hGS hwS
      replace hB := hwS.below _ _ hge hB
      refine hK.out _ _ hB ?_
      clear hK K
      try simp only [Act.put, putA, putB, putC]
      refine wpB_done (by kernel_rfl) ?_
      go_wp2_with fail
      go_meet
      exact ⟨g, rfl, hGS, hB⟩
     ·refine wp_alloc_blk2 hB 58 rfl (poC fun _ => 0) (allocP13 _) ?_
      intro g wN hG hge hBA hBc
      replace hB := hBA
      refine hK.out _ _ hB ?_
      clear hK K
      try simp only [Act.put, putA, putB, putC]
      refine wpB_do (i := 6) (o := ⟨some 33, .call { callee := .value (.func 70), args := #[.tmp 27, .tmp 32], argTypes := #[58, 58] }, 58, "kpke.go:172", #[⟨0, .data⟩, ⟨5, .data⟩, ⟨5, .chain⟩], none⟩) (by kernel_rfl) rfl (by rfl) fun K hK => ?_
      go_simp
      refine (nminus_to la (wF dk c) sh HMi.out _).mono ?_
      rintro e wm ⟨rfl, bm⟩
      replace hB := stepB hB bm
      try replace hG := hG.kept bm
      refine hK.out _ _ hB ?_
      clear hK K
      try simp only [Act.put, putA, putB, putC]
      refine wpB_do (i := 8) (o := ⟨none, .store 58 (.tmp 9) (.tmp 33), 0, "kpke.go:172", #[⟨7, .data⟩, ⟨6, .data⟩, ⟨6, .chain⟩, ⟨0, .phase⟩, ⟨1, .phase⟩, ⟨2, .phase⟩, ⟨3, .phase⟩, ⟨4, .phase⟩, ⟨5, .phase⟩, ⟨6, .phase⟩, ⟨7, .phase⟩], none⟩) (by kernel_rfl) rfl (by rfl) fun K hK => ?_
      refine wp_store_part 58 _ _ rfl rfl (poC sh) rfl [] (poC fun _ => 0) [] (poC sh) hG (whole13 _) (whole13 _) rfl (by rw [poC_length, poC_length]) (infoP13 _) (poC_all _) ?_
      intro wS hGS hwS
      replace hB := hwS.below _ _ hge hB
      refine hK.out _ _ hB ?_
      clear hK K
      try simp only [Act.put, putA, putB, putC]
      refine wpB_done (by kernel_rfl) ?_
      go_wp2_with fail
      go_meet
      exact ⟨g, rfl, hGS, hB⟩
    ·refine wp_alloc_blk2 hB 58 rfl (poC fun _ => 0) (allocP13 _) ?_
     intro g wN hG hge hBA hBc
     replace hB := hBA
     refine hK.out _ _ hB ?_
     clear hK K
     try simp only [Act.put, putA, putB, putC]
     refine wpB_do (i := 5) (o := ⟨some 32, .call { callee := .value (.func 71), args := #[.tmp 31], argTypes := #[58] }, 58, "kpke.go:172", #[⟨4, .data⟩, ⟨4, .chain⟩], none⟩) (by kernel_rfl) rfl (by rfl) fun K hK => ?_
     go_simp
     refine (ninverse_to ac (wF dk c) HIn.out _ (HP.out.kept (stepB hbw hB))).mono ?_
     rintro e wi ⟨rfl, bi⟩
     replace hB := stepB hB bi
     try replace hG := hG.kept bi
     refine hK.out _ _ hB ?_
     clear hK K
     try simp only [Act.put, putA, putB, putC]
     refine wpB_do (i := 6) (o := ⟨some 33, .call { callee := .value (.func 70), args := #[.tmp 27, .tmp 32], argTypes := #[58, 58] }, 58, "kpke.go:172", #[⟨0, .data⟩, ⟨5, .data⟩, ⟨5, .chain⟩], none⟩) (by kernel_rfl) rfl (by rfl) fun K hK => ?_
     go_simp
     refine (nminus_to la (wF dk c) sh HMi.out _).mono ?_
     rintro e wm ⟨rfl, bm⟩
     replace hB := stepB hB bm
     try replace hG := hG.kept bm
     refine hK.out _ _ hB ?_
     clear hK K
     try simp only [Act.put, putA, putB, putC]
     refine wpB_do (i := 8) (o := ⟨none, .store 58 (.tmp 9) (.tmp 33), 0, "kpke.go:172", #[⟨7, .data⟩, ⟨6, .data⟩, ⟨6, .chain⟩, ⟨0, .phase⟩, ⟨1, .phase⟩, ⟨2, .phase⟩, ⟨3, .phase⟩, ⟨4, .phase⟩, ⟨5, .phase⟩, ⟨6, .phase⟩, ⟨7, .phase⟩], none⟩) (by kernel_rfl) rfl (by rfl) fun K hK => ?_
     refine wp_store_part 58 _ _ rfl rfl (poC sh) rfl [] (poC fun _ => 0) [] (poC sh) hG (whole13 _) (whole13 _) rfl (by rw [poC_length, poC_length]) (infoP13 _) (poC_all _) ?_
     intro wS hGS hwS
     replace hB := hwS.below _ _ hge hB
     refine hK.out _ _ hB ?_
     clear hK K
     try simp only [Act.put, putA, putB, putC]
     refine wpB_done (by kernel_rfl) ?_
     go_wp2_with fail
     go_meet
     exact ⟨g, rfl, hGS, hB⟩
   ·refine wp_alloc_blk2 hB 58 rfl (poC fun _ => 0) (allocP13 _) ?_
    intro g wN hG hge hBA hBc
    replace hB := hBA
    refine hK.out _ _ hB ?_
    clear hK K
    try simp only [Act.put, putA, putB, putC]
    refine wpB_do (i := 4) (o := ⟨some 31, .call { callee := .value (.func 72), args := #[.tmp 28, .tmp 30], argTypes := #[60, 60] }, 58, "kpke.go:172", #[⟨1, .data⟩, ⟨3, .data⟩, ⟨3, .chain⟩], none⟩) (by kernel_rfl) rfl (by rfl) fun K hK => ?_
    go_simp
    refine (rtimes_to _ _ (ptF 12 dk) fu ac rfl rfl HAc.out _ (HP.out.kept (stepB hbw hB))).mono ?_
    rintro e wt ⟨rfl, bt⟩
    replace hB := stepB hB bt
    try replace hG := hG.kept bt
    refine hK.out _ _ hB ?_
    clear hK K
    try simp only [Act.put, putA, putB, putC]
    refine wpB_do (i := 5) (o := ⟨some 32, .call { callee := .value (.func 71), args := #[.tmp 31], argTypes := #[58] }, 58, "kpke.go:172", #[⟨4, .data⟩, ⟨4, .chain⟩], none⟩) (by kernel_rfl) rfl (by rfl) fun K hK => ?_
    go_simp
    refine (ninverse_to ac (wF dk c) HIn.out _ (HP.out.kept (stepB hbw hB))).mono ?_
    rintro e wi ⟨rfl, bi⟩
    replace hB := stepB hB bi
    try replace hG := hG.kept bi
    refine hK.out _ _ hB ?_
    clear hK K
    try simp only [Act.put, putA, putB, putC]
    refine wpB_do (i := 6) (o := ⟨some 33, .call { callee := .value (.func 70), args := #[.tmp 27, .tmp 32], argTypes := #[58, 58] }, 58, "kpke.go:172", #[⟨0, .data⟩, ⟨5, .data⟩, ⟨5, .chain⟩], none⟩) (by kernel_rfl) rfl (by rfl) fun K hK => ?_
    go_simp
    refine (nminus_to la (wF dk c) sh HMi.out _).mono ?_
    rintro e wm ⟨rfl, bm⟩
    replace hB := stepB hB bm
    try replace hG := hG.kept bm
    refine hK.out _ _ hB ?_
    clear hK K
    try simp only [Act.put, putA, putB, putC]
    refine wpB_do (i := 8) (o := ⟨none, .store 58 (.tmp 9) (.tmp 33), 0, "kpke.go:172", #[⟨7, .data⟩, ⟨6, .data⟩, ⟨6, .chain⟩, ⟨0, .phase⟩, ⟨1, .phase⟩, ⟨2, .phase⟩, ⟨3, .phase⟩, ⟨4, .phase⟩, ⟨5, .phase⟩, ⟨6, .phase⟩, ⟨7, .phase⟩], none⟩) (by kernel_rfl) rfl (by rfl) fun K hK => ?_
    refine wp_store_part 58 _ _ rfl rfl (poC sh) rfl [] (poC fun _ => 0) [] (poC sh) hG (whole13 _) (whole13 _) rfl (by rw [poC_length, poC_length]) (infoP13 _) (poC_all _) ?_
    intro wS hGS hwS
    replace hB := hwS.below _ _ hge hB
    refine hK.out _ _ hB ?_
    clear hK K
    try simp only [Act.put, putA, putB, putC]
    refine wpB_done (by kernel_rfl) ?_
    go_wp2_with fail
    go_meet
    exact ⟨g, rfl, hGS, hB⟩
  ·refine wp_alloc_blk2 hB 58 rfl (poC fun _ => 0) (allocP13 _) ?_
   intro g wN hG hge hBA hBc
   replace hB := hBA
   refine hK.out _ _ hB ?_
   clear hK K
   try simp only [Act.put, putA, putB, putC]
   refine wpB_do (i := 3) (o := ⟨some 30, .call { callee := .value (.func 42), args := #[.tmp 29, .func 43], argTypes := #[60, 63] }, 60, "kpke.go:172", #[⟨2, .data⟩], none⟩) (by kernel_rfl) rfl (by rfl) fun K hK => ?_
   go_simp
   refine (eachF_any _ us fu rfl HFu.out _ (HP.out.kept (stepB hbw hB))).mono ?_
   rintro e wq ⟨rfl, bq⟩
   replace hB := stepB hB bq
   try replace hG := hG.kept bq
   refine hK.out _ _ hB ?_
   clear hK K
   try simp only [Act.put, putA, putB, putC]
   refine wpB_do (i := 4) (o := ⟨some 31, .call { callee := .value (.func 72), args := #[.tmp 28, .tmp 30], argTypes := #[60, 60] }, 58, "kpke.go:172", #[⟨1, .data⟩, ⟨3, .data⟩, ⟨3, .chain⟩], none⟩) (by kernel_rfl) rfl (by rfl) fun K hK => ?_
   go_simp
   refine (rtimes_to _ _ (ptF 12 dk) fu ac rfl rfl HAc.out _ (HP.out.kept (stepB hbw hB))).mono ?_
   rintro e wt ⟨rfl, bt⟩
   replace hB := stepB hB bt
   try replace hG := hG.kept bt
   refine hK.out _ _ hB ?_
   clear hK K
   try simp only [Act.put, putA, putB, putC]
   refine wpB_do (i := 5) (o := ⟨some 32, .call { callee := .value (.func 71), args := #[.tmp 31], argTypes := #[58] }, 58, "kpke.go:172", #[⟨4, .data⟩, ⟨4, .chain⟩], none⟩) (by kernel_rfl) rfl (by rfl) fun K hK => ?_
   go_simp
   refine (ninverse_to ac (wF dk c) HIn.out _ (HP.out.kept (stepB hbw hB))).mono ?_
   rintro e wi ⟨rfl, bi⟩
   replace hB := stepB hB bi
   try replace hG := hG.kept bi
   refine hK.out _ _ hB ?_
   clear hK K
   try simp only [Act.put, putA, putB, putC]
   refine wpB_do (i := 6) (o := ⟨some 33, .call { callee := .value (.func 70), args := #[.tmp 27, .tmp 32], argTypes := #[58, 58] }, 58, "kpke.go:172", #[⟨0, .data⟩, ⟨5, .data⟩, ⟨5, .chain⟩], none⟩) (by kernel_rfl) rfl (by rfl) fun K hK => ?_
   go_simp
   refine (nminus_to la (wF dk c) sh HMi.out _).mono ?_
   rintro e wm ⟨rfl, bm⟩
   replace hB := stepB hB bm
   try replace hG := hG.kept bm
   refine hK.out _ _ hB ?_
   clear hK K
   try simp only [Act.put, putA, putB, putC]
   refine wpB_do (i := 8) (o := ⟨none, .store 58 (.tmp 9) (.tmp 33), 0, "kpke.go:172", #[⟨7, .data⟩, ⟨6, .data⟩, ⟨6, .chain⟩, ⟨0, .phase⟩, ⟨1, .phase⟩, ⟨2, .phase⟩, ⟨3, .phase⟩, ⟨4, .phase⟩, ⟨5, .phase⟩, ⟨6, .phase⟩, ⟨7, .phase⟩], none⟩) (by kernel_rfl) rfl (by rfl) fun K hK => ?_
   refine wp_store_part 58 _ _ rfl rfl (poC sh) rfl [] (poC fun _ => 0) [] (poC sh) hG (whole13 _) (whole13 _) rfl (by rw [poC_length, poC_length]) (infoP13 _) (poC_all _) ?_
   intro wS hGS hwS
   replace hB := hwS.below _ _ hge hB
   refine hK.out _ _ hB ?_
   clear hK K
   try simp only [Act.put, putA, putB, putC]
   refine wpB_done (by kernel_rfl) ?_
   go_wp2_with fail
   go_meet
   exact ⟨g, rfl, hGS, hB⟩
 case rest =>
 obtain ⟨gS, rfl, rS, bc⟩ := hcut
 replace hbw := stepB hbw bc
 rename World => wb
 clear bc rK rU rL HIn HMi HFu HAc
 go_wp2_with (refine wpList_load_part rfl 58 _ rfl rfl [] (poC sh) [] rS (whole13 _) rfl Tryz.underlying58 rfl (infoP13 _) ?_)
 refine (ssqueezeQ 1 (by decide) _ rfl sh _).mono ?_
 rintro e wc ⟨rfl, bc⟩
 replace hbw := stepB hbw bc
 clear bc rS
 go_wp2_with fail
 refine (spackQ 1 _ rfl (by decide) (by decide) (sqF 1 sh) _).mono ?_
 rintro e wd ⟨vd, rfl, hNd⟩
 have hO := hNd.from hbw
 rw [HM.out] at hO
 clear hNd
 go_wp2
 go_ret2
 exact ⟨vd, rfl, hO⟩
end Go.Proofs.YtmhbjaampobcbaaGreatDoor
