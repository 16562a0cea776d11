/- What the document's own polynomials' operations are, told of rests; what is decrypted: contracts of the reference of layer 13, second part. -/
import Derived.Test.YtmhbjaampobcbaaGreatDoorRef13a
import Derived.Test.YtmhbjaampobcbaaGreatDoorRef12e
import Derived.Test.YtmhbjaampobcbaaGreatDoorRfa
namespace Go.Proofs.YtmhbjaampobcbaaGreatDoor
open Go.ChangeShapes Go.WideShapes Go.ChangeAt Go.RowKit
set_option linter.unusedSimpArgs false
set_option linter.unusedVariables false

theorem plusP (f g : Nat → FZ) (w : World) : Calls Tryz.prog 53 #[poV f, poV g] w fun e w' => e = .returned (poV fun k => f k + g k) ∧ Below w.heap.size w w' := by
 have := plus11_any _ _ (fzF f) (fzF g) (Po.fz f) (Po.fz g) rfl rfl w
 rw [rF_fz, rF_fz] at this
 exact this
theorem minusP (f g : Nat → FZ) (w : World) : Calls Tryz.prog 77 #[poV f, poV g] w fun e w' => e = .returned (poV fun k => f k - g k) ∧ Below w.heap.size w w' := by
 have := minus11_any _ _ (fzF f) (fzF g) (Po.fz f) (Po.fz g) rfl rfl w
 rw [rF_fz, rF_fz] at this
 exact this
theorem timesP (f g : Nat → FZ) (w : World) : Calls Tryz.prog 54 #[poV f, poV g] w fun e w' => e = .returned (poV (tm f g)) ∧ Below w.heap.size w w' := by
 have := times11_any _ _ (fzF f) (fzF g) (Po.fz f) (Po.fz g) rfl rfl w
 rw [rF_fz, rF_fz] at this
 exact this
theorem productP (f g : Nat → FZ) (w : World) : Calls Tryz.prog 76 #[poV f, poV g] w fun e w' => e = .returned (poV (pd f g)) ∧ Below w.heap.size w w' := by
 have := product11_any _ _ (fzF f) (fzF g) (Po.fz f) (Po.fz g) rfl rfl w
 rw [rF_fz, rF_fz] at this
 exact this
theorem forwardP (f : Nat → FZ) (w : World) : Calls Tryz.prog 50 #[poV f] w fun e w' => e = .returned (poV (fwd f)) ∧ Below w.heap.size w w' := by
 have := forward11_any _ (fzF f) (Po.fz f) rfl w
 rw [rF_fz] at this
 exact this
theorem inverseP (f : Nat → FZ) (w : World) : Calls Tryz.prog 61 #[poV f] w fun e w' => e = .returned (poV (inw f)) ∧ Below w.heap.size w w' := by
 have := inverse11_any _ (fzF f) (Po.fz f) rfl w
 rw [rF_fz] at this
 exact this
abbrev sqV (d : Nat) (f : Nat → FZ) : Value := .agg ((gI (sqI d f)).map (Value.int .i64)).toArray
theorem sqI_le (d : Nat) (f : Nat → FZ) (k : Nat) : 0 ≤ sqI d f k ∧ sqI d f k < 4096 := by
 unfold sqI cpA
 split
 ·rename_i h
  unfold cpZ
  have h2 : 2 ^ (d : Int).toNat ≤ 2 ^ 11 := Nat.pow_le_pow_right (by decide) (by omega)
  have h3 := Nat.mod_lt ((2 ^ ((d : Int).toNat + 1) * rsZ (fzF f k) + 3329) / 6658) (Nat.two_pow_pos (d : Int).toNat)
  omega
 ·omega
theorem Po.sq (d : Nat) (f : Nat → FZ) : Po (sqI d f) := ⟨fun k => by have := sqI_le d f k; unfold In64; omega⟩
theorem squeezeP (d : Nat) (D : Int) (hD : D = (d : Int)) (f : Nat → FZ) (w : World) : Calls Tryz.prog 62 #[.int .i64 D, poV f] w fun e w' => e = .returned (sqV d f) ∧ Below w.heap.size w w' := by
 subst hD
 exact squeeze12_any d _ (fzF f) (Po.fz f) rfl w
theorem packS (d e : Nat) (D : Int) (hD : D = (d : Int)) (h1 : 1 ≤ d) (h12 : d ≤ 12) (f : Nat → FZ) (w : World) : Calls Tryz.prog 52 #[.int .i64 D, sqV e f] w fun r w' => ∃ v, r = .returned v ∧ New 5 w v (pkL d (sqI e f)) w' :=
 pack12_any d D hD h1 h12 _ (sqI e f) (Po.sq e f) rfl w
theorem packP (d : Nat) (D : Int) (hD : D = (d : Int)) (h1 : 1 ≤ d) (h12 : d ≤ 12) (f : Nat → FZ) (w : World) : Calls Tryz.prog 52 #[.int .i64 D, poV f] w fun r w' => ∃ v, r = .returned v ∧ New 5 w v (pkL d (fzF f)) w' :=
 pack12_any d D hD h1 h12 _ (fzF f) (Po.fz f) rfl w
theorem dcA_lt (d y : Int) : dcA d y < 3329 := by
 unfold dcA
 split
 ·rename_i h
  unfold dcZ
  have h1 : twZ d.toNat y < 2 ^ d.toNat := by
   unfold twZ
   have h2 : (0 : Int) < ((2 ^ d.toNat : Nat) : Int) := by have := Nat.two_pow_pos d.toNat; omega
   have h3 := Int.emod_lt_of_pos y h2
   have h4 := Int.emod_nonneg y (show ((2 ^ d.toNat : Nat) : Int) ≠ 0 by omega)
   omega
  have h5 : 2 ^ d.toNat ≤ 2 ^ 11 := Nat.pow_le_pow_right (by decide) (by omega)
  rw [Nat.div_lt_iff_lt_mul (Nat.two_pow_pos _), Nat.pow_succ]
  generalize 2 ^ d.toNat = q at h1 h5
  generalize twZ d.toNat y = t at h1
  omega
 ·decide
theorem spread_po (d : Nat) (f : Nat → FZ) : gI (fun k => ((dcA d (fzF f k) : Nat) : Int)) = gI (fzF (spF d f)) := by
 refine gI_congr fun k _ => ?_
 unfold fzF spF
 rw [nz_val, Nat.mod_eq_of_lt (dcA_lt _ _)]
 rfl
theorem spreadP (d : Nat) (D : Int) (hD : D = (d : Int)) (f : Nat → FZ) (w : World) : Calls Tryz.prog 65 #[.int .i64 D, poV f] w fun e w' => e = .returned (poV (spF d f)) ∧ Below w.heap.size w w' := by
 subst hD
 have := spread12_any d _ (fzF f) (Po.fz f) rfl w
 rw [spread_po] at this
 exact this

set_option maxRecDepth 100000 in
set_option maxHeartbeats 8000000 in
theorem dec13_any (vk vc : Value) (dk c : List UInt8) (w : World) (hk : Rd w vk dk) (hc : Rd w vc c) (hkl : dk.length = 1152) (hcl : c.length = 1088) :
  Calls Tryz.prog 38 #[vk, vc] w fun e w' => ∃ r, e = .returned (.tuple #[r, .int .i64 0]) ∧ New 5 w r (meL dk c) w' := by
 obtain ⟨ak, ck, rfl, -, -, -, -⟩ := id hk
 obtain ⟨a0, cc, ev, hcc, hmc, -, h5⟩ := id hc
 rcases h5 with h5 | ⟨bb, ob, rfl, -⟩
 ·rw [h5] at hcl
  simp at hcl
 subst ev
 rw [hkl] at hk ⊢
 rw [hcl] at hc hcc ⊢
 have hs := hc.sub 960 1088 (by omega) (by omega)
 have ht : (c.drop 960).take (1088 - 960) = c.drop 960 := by rw [List.take_of_length_le (by rw [List.length_drop, hcl]; decide)]
 rw [ht] at hs
 have HS : Hid (Rd w (.slice (some ⟨bb, ob + 960, none⟩) 128 (cc - 960)) (c.drop 960)) := hs
 have HK : Hid (Rd w (.slice ak 1152 ck) dk) := hk
 have HC : Hid (Rd w (.slice (some ⟨bb, ob, none⟩) 1088 cc) c) := hc
 have HKl : Hid _ := hkl
 have HCl : Hid _ := hcl
 unfold maxLen at hmc
 have y1 : ¬ cc = 960 := by omega
 have y2 : (1088 : Int) ≤ (cc : Int) := by omega
 clear hk hc hs ht hkl hcl
 go_enter Tryz.func38, Tryz.ntmps38
 go_wp2_with (refine wpList_alloc_row (k := .i64) rfl 57 rfl (gI fun _ => 0) (alloc_po _) (gI_ne _) (poMax _) ?_)
 intro w1 rz bn sn
 rw [gI_length] at rz
 have r0 : RowAt .i64 57 w.heap.size 256 (gI (fzF (acF (fun _ => 0) (fun i => pd (inw (ptF 12 dk i)) (spF 10 (ptF 10 c i))) 0))) w1 := rz
 have hbw := bn
 clear bn sn rz
 go_wp2
 go_loopw [7] (fun iv wx => ∃ i : Nat, i ≤ 3 ∧ iv = .int .i64 (i : Int) ∧ RowAt .i64 57 w.heap.size 256 (gI (fzF (acF (fun _ => 0) (fun i => pd (inw (ptF 12 dk i)) (spF 10 (ptF 10 c i))) i))) wx ∧ Below w.heap.size w wx) (fun iv _ => 3 - (intOf iv).toNat)
 case atStart => exact ⟨0, by omega, rfl, r0, hbw⟩
 case round =>
  obtain ⟨i, hi, rfl, ra, hbx⟩ := hrel
  clear r0 hbw
  by_cases hlt : i < 3
  ·have hd : decide ((i : Int) < 3) = true := decide_eq_true (by omega)
   have hiI : (i : Int) < 3 := by omega
   have HNx : Hid (∀ f g : Nat → FZ, f = acF (fun _ => 0) (fun i => pd (inw (ptF 12 dk i)) (spF 10 (ptF 10 c i))) i → g = pd (inw (ptF 12 dk i)) (spF 10 (ptF 10 c i)) → (fun k => f k + g k) = acF (fun _ => 0) (fun i => pd (inw (ptF 12 dk i)) (spF 10 (ptF 10 c i))) (i + 1)) := by
    intro f g hf hg
    rw [hf, hg]
    rfl
   obtain ⟨f0, hf0⟩ : ∃ f : Nat → FZ, f = acF (fun _ => 0) (fun i => pd (inw (ptF 12 dk i)) (spF 10 (ptF 10 c i))) i := ⟨_, rfl⟩
   rw [← hf0] at ra
   have HF0 : Hid _ := hf0
   have hg0 := ra.lt
   clear hf0
   go_wp2_with fail
   refine (part13_any 10 i _ _ rfl rfl (by decide) (by decide) _ c (by rw [HCl.out]; omega) (by rw [HCl.out]; decide) _ (HC.out.kept hbx)).mono ?_
   rintro e w2 ⟨rfl, b2⟩
   replace ra := ra.kept b2
   replace hbx := stepB hbx b2
   have n2 := b2.size
   clear b2
   go_wp2_with fail
   refine (spreadP 10 _ rfl (ptF 10 c i) _).mono ?_
   rintro e w3 ⟨rfl, b3⟩
   replace ra := ra.kept b3
   replace hbx := stepB hbx b3
   have n3 := b3.size
   clear b3
   obtain ⟨u, hu⟩ : ∃ f : Nat → FZ, f = spF 10 (ptF 10 c i) := ⟨_, rfl⟩
   rw [← hu]
   have HU : Hid _ := hu
   clear hu
   go_wp2_with (refine wpList_alloc_row (k := .i64) rfl 57 rfl (gI fun _ => 0) (alloc_po _) (gI_ne _) (poMax _) ?_)
   intro w4 r4 bn sn
   rw [gI_length] at r4
   replace ra := ra.kept bn
   replace hbx := stepB hbx bn
   have n4 : w3.heap.size < w4.heap.size := by have := sn.out; omega
   clear bn sn
   go_wp2_with (refine wpList_store_row rfl 57 _ _ rfl (gI (fzF u)) rfl rfl r4 (by rw [gI_length, gI_length]) (poInfo _) ?_)
   intro w5 r5 hw5
   replace ra := ra.wrote hw5 (by omega)
   replace hbx := hw5.below _ _ (by omega) hbx
   have n5 : w3.heap.size < w5.heap.size := by have := hw5.size; omega
   clear r4 hw5
   go_wp2_with fail
   refine (part13_any 12 i _ _ rfl rfl (by decide) (by decide) _ dk (by rw [HKl.out]; omega) (by rw [HKl.out]; decide) _ (HK.out.kept hbx)).mono ?_
   rintro e w6 ⟨rfl, b6⟩
   replace ra := ra.kept b6
   replace r5 := r5.kept b6
   replace hbx := stepB hbx b6
   have n6 := b6.size
   clear b6
   go_wp2_with fail
   refine (inverseP (ptF 12 dk i) _).mono ?_
   rintro e w7 ⟨rfl, b7⟩
   replace ra := ra.kept b7
   replace r5 := r5.kept b7
   replace hbx := stepB hbx b7
   have n7 := b7.size
   clear b7
   obtain ⟨s, hs⟩ : ∃ f : Nat → FZ, f = inw (ptF 12 dk i) := ⟨_, rfl⟩
   rw [← hs]
   have HSs : Hid _ := hs
   clear hs
   go_wp2_with (refine wpList_alloc_row (k := .i64) rfl 57 rfl (gI fun _ => 0) (alloc_po _) (gI_ne _) (poMax _) ?_)
   intro w8 r8 bn sn
   rw [gI_length] at r8
   replace ra := ra.kept bn
   replace r5 := r5.kept bn
   replace hbx := stepB hbx bn
   clear bn sn
   go_wp2_with (refine wpList_store_row rfl 57 _ _ rfl (gI (fzF s)) rfl rfl r8 (by rw [gI_length, gI_length]) (poInfo _) ?_)
   intro w9 r9 hw9
   replace ra := ra.wrote hw9 (by omega)
   replace r5 := r5.wrote hw9 (by omega)
   replace hbx := hw9.below _ _ (by omega) hbx
   clear r8 hw9
   go_wp2_with fail
   refine wpE_begin 5 (by kernel_rfl) ?_
   refine wpE_t (i := 0) (oi := ⟨some 32, .load 57 (.tmp 6), 57, "ref.go:93", #[], none⟩) (v := ?_) ?_ ?_
   rotate_left
   ·intro W hW; refine Eq.trans (exec_load_row 57 _ (by rfl) (by rfl) ra hW _ Tryz.underlying57 rfl (poInfo _)) ?_; with_reducible rfl
   try simp only [Act.put, putA, putB, putC]
   refine wpE_t (i := 1) (oi := ⟨some 33, .load 57 (.tmp 9), 57, "ref.go:93", #[], none⟩) (v := ?_) ?_ ?_
   rotate_left
   ·intro W hW; refine Eq.trans (exec_load_row 57 _ (by rfl) (by rfl) r9 hW _ Tryz.underlying57 rfl (poInfo _)) ?_; with_reducible rfl
   try simp only [Act.put, putA, putB, putC]
   refine wpE_t (i := 2) (oi := ⟨some 34, .load 57 (.tmp 8), 57, "ref.go:93", #[], none⟩) (v := ?_) ?_ ?_
   rotate_left
   ·intro W hW; refine Eq.trans (exec_load_row 57 _ (by rfl) (by rfl) r5 hW _ Tryz.underlying57 rfl (poInfo _)) ?_; with_reducible rfl
   try simp only [Act.put, putA, putB, putC]
   refine wpE_do (i := 3) (o := ⟨some 35, .call { callee := .value (.func 76), args := #[.tmp 33, .tmp 34], argTypes := #[57, 57] }, 57, "ref.go:93", #[⟨1, .data⟩, ⟨2, .data⟩], none⟩) (by kernel_rfl) rfl (by rfl) fun K hK => ?_
   go_simp
   refine (productP s u _).mono ?_
   rintro e wq ⟨rfl, bq⟩
   refine hK.out _ _ bq ?_
   clear hK K
   try simp only [Act.put, putA, putB, putC]
   refine wpE_do (i := 4) (o := ⟨some 36, .call { callee := .value (.func 53), args := #[.tmp 32, .tmp 35], argTypes := #[57, 57] }, 57, "ref.go:93", #[⟨0, .data⟩, ⟨3, .data⟩, ⟨3, .chain⟩], none⟩) (by kernel_rfl) rfl (by rfl) fun K hK => ?_
   go_simp
   refine (plusP f0 (pd s u) _).mono ?_
   rintro e wm ⟨rfl, bm⟩
   rw [HNx.out f0 (pd s u) HF0.out (by rw [HSs.out, HU.out])]
   refine hK.out _ _ bm ?_
   clear hK K
   try simp only [Act.put, putA, putB, putC]
   refine wpE_last (o := ⟨none, .store 57 (.tmp 6) (.tmp 36), 0, "ref.go:93", #[⟨4, .data⟩, ⟨4, .chain⟩, ⟨0, .phase⟩, ⟨1, .phase⟩, ⟨2, .phase⟩, ⟨3, .phase⟩, ⟨4, .phase⟩], none⟩) (by kernel_rfl) (by kernel_rfl) rfl (by rfl) fun K hK => ?_
   refine wp_store_row 57 _ _ rfl (gI (fzF (acF (fun _ => 0) (fun i => pd (inw (ptF 12 dk i)) (spF 10 (ptF 10 c i))) (i + 1)))) rfl rfl ((ra.drew.kept bq).kept bm) (by rw [gI_length, gI_length]) (poInfo _) ?_
   intro wS rS hwS
   refine hK.out _ _ ?_
   clear hK K
   try simp only [Act.put, putA, putB, putC]
   have hbn := hwS.below _ _ (by omega) (stepB (stepB hbx.drew bq) bm)
   clear ra r5 r9 hbx bq bm hwS HNx HF0 HU HSs
   go_wp2
   go_roundw
   case rel => exact ⟨i + 1, by omega, by go_num, rS, hbn⟩
   case measure => simp [intOf] <;> omega
  ·have hie : i = 3 := by omega
   have hd : decide ((i : Int) < 3) = false := decide_eq_false (by omega)
   have hiI : (3 : Int) ≤ (i : Int) := by omega
   rw [hie] at ra
   have ra' : RowAt .i64 57 w.heap.size 256 (gI (fzF (wF dk c))) wr := ra
   have hg0 := ra.lt
   clear hie ra
   go_wp2_with fail
   refine (unpack12_any 4 _ rfl (by decide) (by decide) _ _ _ (HS.out.kept hbx) (by rw [List.length_drop, HCl.out])).mono ?_
   rintro e w2 ⟨rfl, b2⟩
   replace ra' := ra'.kept b2
   replace hbx := stepB hbx b2
   have n2 := b2.size
   clear b2
   go_wp2_with (refine wpList_alloc_row (k := .i64) rfl 57 rfl (gI fun _ => 0) (alloc_po _) (gI_ne _) (poMax _) ?_)
   intro w4 r4 bn sn
   rw [gI_length] at r4
   replace ra' := ra'.kept bn
   replace hbx := stepB hbx bn
   clear bn sn
   go_wp2_with (refine wpList_store_row rfl 57 _ _ rfl (gI (fzF (upF 4 (c.drop 960)))) rfl rfl r4 (by rw [gI_length, gI_length]) (poInfo _) ?_)
   intro w5 r5 hw5
   replace ra' := ra'.wrote hw5 (by omega)
   replace hbx := hw5.below _ _ (by omega) hbx
   clear r4 hw5
   go_wp2_with fail
   refine wpG_begin (by kernel_rfl) ?_
   refine wpG_t (i := 0) (oi := ⟨some 43, .load 57 (.tmp 10), 57, "ref.go:96", #[], none⟩) (v := ?_) ?_ ?_
   rotate_left
   ·intro W hW; refine Eq.trans (exec_load_row 57 _ (by rfl) (by rfl) r5 hW _ Tryz.underlying57 rfl (poInfo _)) ?_; with_reducible rfl
   try simp only [Act.put, putA, putB, putC]
   refine wpG_t (i := 2) (oi := ⟨some 45, .load 57 (.tmp 6), 57, "ref.go:96", #[], none⟩) (v := ?_) ?_ ?_
   rotate_left
   ·intro W hW; refine Eq.trans (exec_load_row 57 _ (by rfl) (by rfl) ra' hW _ Tryz.underlying57 rfl (poInfo _)) ?_; with_reducible rfl
   try simp only [Act.put, putA, putB, putC]
   refine wpG_do (i := 1) (o := ⟨some 44, .call { callee := .value (.func 65), args := #[.const (.int .i64 4), .tmp 43], argTypes := #[3, 57] }, 57, "ref.go:96", #[⟨0, .data⟩], none⟩) (by kernel_rfl) rfl (by rfl) fun K hK => ?_
   go_simp
   refine (spreadP 4 _ rfl (upF 4 (c.drop 960)) _).mono ?_
   rintro e wp ⟨rfl, bp⟩
   refine hK.out _ _ bp ?_
   clear hK K
   try simp only [Act.put, putA, putB, putC]
   refine wpG_do (i := 3) (o := ⟨some 46, .call { callee := .value (.func 77), args := #[.tmp 44, .tmp 45], argTypes := #[57, 57] }, 57, "ref.go:96", #[⟨1, .data⟩, ⟨2, .data⟩, ⟨1, .chain⟩], none⟩) (by kernel_rfl) rfl (by rfl) fun K hK => ?_
   go_simp
   refine (minusP (spF 4 (upF 4 (c.drop 960))) (wF dk c) _).mono ?_
   rintro e wq ⟨rfl, bq⟩
   refine hK.out _ _ bq ?_
   clear hK K
   try simp only [Act.put, putA, putB, putC]
   refine wpG_do (i := 4) (o := ⟨some 47, .call { callee := .value (.func 62), args := #[.const (.int .i64 1), .tmp 46], argTypes := #[3, 57] }, 57, "ref.go:96", #[⟨3, .data⟩, ⟨3, .chain⟩], none⟩) (by kernel_rfl) rfl (by rfl) fun K hK => ?_
   go_simp
   refine (squeezeP 1 _ rfl (fun k => spF 4 (upF 4 (c.drop 960)) k - wF dk c k) _).mono ?_
   rintro e wm ⟨rfl, bm⟩
   refine hK.out _ _ bm ?_
   clear hK K
   try simp only [Act.put, putA, putB, putC]
   refine wpG_do (i := 5) (o := ⟨some 48, .call { callee := .value (.func 52), args := #[.const (.int .i64 1), .tmp 47], argTypes := #[3, 57] }, 22, "ref.go:96", #[⟨4, .data⟩, ⟨4, .chain⟩], none⟩) (by kernel_rfl) rfl (by rfl) fun K hK => ?_
   go_simp
   refine (packS 1 1 _ rfl (by decide) (by decide) (fun k => spF 4 (upF 4 (c.drop 960)) k - wF dk c k) _).mono ?_
   rintro e wn ⟨vr, rfl, hN⟩
   refine hK.out _ _ hN.2 ?_
   clear hK K
   try simp only [Act.put, putA, putB, putC]
   refine wpG_t (i := 6) (oi := ⟨some 4, .assign (.tmp 48), 22, "ref.go:96", #[⟨5, .data⟩, ⟨5, .chain⟩, ⟨0, .phase⟩, ⟨1, .phase⟩, ⟨2, .phase⟩, ⟨3, .phase⟩, ⟨4, .phase⟩, ⟨5, .phase⟩], none⟩) (v := ?_) ?_ ?_
   rotate_left
   ·intro W hW; go_simp <;> with_reducible rfl
   try simp only [Act.put, putA, putB, putC]
   refine wpG_t (i := 7) (oi := ⟨some 5, .assign (.const (.int .i64 0)), 24, "ref.go:96", #[⟨6, .chain⟩, ⟨0, .phase⟩, ⟨1, .phase⟩, ⟨2, .phase⟩, ⟨3, .phase⟩, ⟨4, .phase⟩, ⟨5, .phase⟩, ⟨6, .phase⟩], none⟩) (v := ?_) ?_ ?_
   rotate_left
   ·intro W hW; go_simp <;> with_reducible rfl
   try simp only [Act.put, putA, putB, putC]
   refine wpG_done (by kernel_rfl) ?_
   go_wp2
   go_ret2
   exact ⟨vr, rfl, hN.from (stepB (stepB (stepB hbx.drew bp) bq) bm)⟩
end Go.Proofs.YtmhbjaampobcbaaGreatDoor
