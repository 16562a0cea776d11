/- Operations of polynomials told of rests; small polynomials, unpacked ones, rows of them: contracts of package kpke, second part. -/
import Derived.Test.YtmhbjaampobcbaaGreatDoorX13a
import Derived.Test.YtmhbjaampobcbaaGreatDoorJm
import Derived.Test.YtmhbjaampobcbaaGreatDoorL12d
import Derived.Test.YtmhbjaampobcbaaGreatDoorL12e
import Derived.Test.YtmhbjaampobcbaaGreatDoorL12g
namespace Go.Proofs.YtmhbjaampobcbaaGreatDoor
open Go.ChangeShapes Go.WideShapes Go.ChangeAt Go.RowKit
set_option linter.unusedSimpArgs false
set_option linter.unusedVariables false

theorem nplusQ (f g : Nat → FZ) (w : World) : Calls Tryz.prog 92 #[poV f, poV g] w fun e w' => e = .returned (poV fun k => f k + g k) ∧ Below w.heap.size w w' := by
 have := nplus_any _ _ (fzF f) (fzF g) (Po.fz f) (Po.fz g) rfl rfl w
 rw [rF_fz, rF_fz] at this
 exact this
theorem nminusQ (f g : Nat → FZ) (w : World) : Calls Tryz.prog 70 #[poV f, poV g] w fun e w' => e = .returned (poV fun k => f k - g k) ∧ Below w.heap.size w w' := by
 have := nminus_any _ _ (fzF f) (fzF g) (Po.fz f) (Po.fz g) rfl rfl w
 rw [rF_fz, rF_fz] at this
 exact this
theorem ntimesQ (f g : Nat → FZ) (w : World) (hT : PwT w) : Calls Tryz.prog 123 #[poV f, poV g] w fun e w' => e = .returned (poV (tm f g)) ∧ Below w.heap.size w w' := by
 have := ntimes_any _ _ (fzF f) (fzF g) (Po.fz f) (Po.fz g) rfl rfl w hT
 rw [rF_fz, rF_fz] at this
 exact this
theorem nforwardQ (f : Nat → FZ) (w : World) (hT : PwT w) : Calls Tryz.prog 43 #[poV f] w fun e w' => e = .returned (poV (fwd f)) ∧ Below w.heap.size w w' := by
 have := nforward_any _ (fzF f) (Po.fz f) rfl w hT
 rw [rF_fz] at this
 exact this
theorem ninverseQ (f : Nat → FZ) (w : World) (hT : PwT w) : Calls Tryz.prog 71 #[poV f] w fun e w' => e = .returned (poV (inw f)) ∧ Below w.heap.size w w' := by
 have := ninverse_any _ (fzF f) (Po.fz f) rfl w hT
 rw [rF_fz] at this
 exact this
theorem dcA_lt13 (d y : Int) : dcA d y < 3329 := by
 unfold dcA
 split
 ·rename_i h
  unfold dcZ
  have h1 : twZ d.toNat y < 2 ^ d.toNat := by
   unfold twZ
   have h2 : (0 : Int) < ((2 ^ d.toNat : Nat) : Int) := by have := Nat.two_pow_pos d.toNat; omega
   have h3 := Int.emod_lt_of_pos y h2
   have h4 := Int.emod_nonneg y (show ((2 ^ d.toNat : Nat) : Int) ≠ 0 by omega)
   omega
  have h5 : 2 ^ d.toNat ≤ 2 ^ 11 := Nat.pow_le_pow_right (by decide) (by omega)
  rw [Nat.div_lt_iff_lt_mul (Nat.two_pow_pos _), Nat.pow_succ]
  generalize 2 ^ d.toNat = q at h1 h5
  generalize twZ d.toNat y = t at h1
  omega
 ·decide
theorem spread_po13 (d : Nat) (f : Nat → FZ) : gI (fun k => ((dcA d (fzF f k) : Nat) : Int)) = gI (fzF (spF d f)) := by
 refine gI_congr fun k _ => ?_
 unfold fzF spF
 rw [nz_val, Nat.mod_eq_of_lt (dcA_lt13 _ _)]
 rfl
theorem sspreadQ (d : Nat) (D : Int) (hD : D = (d : Int)) (f : Nat → FZ) (w : World) : Calls Tryz.prog 68 #[.int .i64 D, poV f] w fun e w' => e = .returned (poV (spF d f)) ∧ Below w.heap.size w w' := by
 subst hD
 have := sspread_any d _ (fzF f) (Po.fz f) rfl w
 rw [spread_po13] at this
 exact this
theorem ssqueezeQ (d : Nat) (hd : d ≤ 11) (D : Int) (hD : D = (d : Int)) (f : Nat → FZ) (w : World) : Calls Tryz.prog 73 #[.int .i64 D, poV f] w fun e w' => e = .returned (poV (sqF d f)) ∧ Below w.heap.size w w' := by
 subst hD
 have := ssqueeze_any d _ (fzF f) (Po.fz f) rfl w
 have e : (fun k => ((cpA d (fzF f k) : Nat) : Int)) = fzF (sqF d f) := (sqF_val d hd f).symm
 rw [e] at this
 exact this
theorem spackQ (d : Nat) (D : Int) (hD : D = (d : Int)) (h1 : 1 ≤ d) (h12 : d ≤ 12) (f : Nat → FZ) (w : World) : Calls Tryz.prog 59 #[.int .i64 D, poV f] w fun r w' => ∃ v, r = .returned v ∧ New 5 w v (pkL d (fzF f)) w' :=
 spack_any d D hD h1 h12 _ (fzF f) (Po.fz f) rfl w

theorem ofN_wrap13 (n : Nat) : IntKind.u8.wrap (n : Int) = (((UInt8.ofNat n).toNat : Nat) : Int) := by
 rw [IntKind.wrap_u8, UInt8.toNat_ofNat']
 omega
theorem ofN_mod13 (n : Nat) : (n : Int) % 256 = (((UInt8.ofNat n).toNat : Nat) : Int) := by
 rw [UInt8.toNat_ofNat']
 omega

set_option maxRecDepth 100000 in
set_option maxHeartbeats 2000000 in
theorem small_any (v : Value) (l : List UInt8) (n : Nat) (N : Int) (hN : N = (n : Int)) (hl : l.length = 32) (w : World) (hr : Rd w v l) (hT : Tabs w) :
  Calls Tryz.prog 80 #[v, .int .i64 N] w fun e w' => e = .returned (poV (slF l n)) ∧ Below w.heap.size w w' := by
 have HR : Hid (Rd w v l) := hr
 have HL : Hid (l.length = 32) := hl
 have i1 := ofN_wrap13 n
 have i2 := ofN_mod13 n
 obtain ⟨bi, hbi⟩ : ∃ x : UInt8, x = UInt8.ofNat n := ⟨_, rfl⟩
 rw [← hbi] at i1 i2
 have HB : Hid _ := hbi
 subst hN
 clear hr hl hbi
 go_enter Tryz.func80, Tryz.ntmps80
 go_wp2_with (refine wpList_alloc_blk rfl 58 rfl (poC fun _ => 0) (allocP13 _) ?_)
 intro w1 rz b1 s1
 replace hT := hT.kept b1
 have hbw := b1
 have n1 : w.heap.size < w1.heap.size := by have := s1.out; omega
 have HR1 : Hid (Rd w1 v l) := Rd.kept HR.out b1
 clear b1 s1
 go_wp2_with fail
 refine (sprf_any 2 _ rfl (by decide) (by decide) _ l bi _ rfl (by rw [HL.out]; decide) _ HR1.out hT).mono ?_
 rintro e w2 ⟨rfl, b2⟩
 replace rz := rz.kept b2
 replace hbw := stepB hbw b2
 have n2 := b2.size
 clear b2 hT
 obtain ⟨f, hf⟩ : ∃ f : Nat → FZ, f = nsF 2 (otL (abF 136 31 (l ++ [bi])) 136 (64 * 2)) := ⟨_, rfl⟩
 rw [← hf]
 have HF : Hid _ := hf
 clear hf
 go_wp2_with (refine wpList_alloc_blk rfl 58 rfl (poC fun _ => 0) (allocP13 _) ?_)
 intro w3 rp b3 s3
 replace rz := rz.kept b3
 replace hbw := stepB hbw b3
 clear b3 s3
 go_wp2_with (refine wpList_store_part rfl 58 _ _ rfl rfl (poC f) rfl [] (poC fun _ => 0) [] (poC f) rp (whole13 _) (whole13 _) rfl (by rw [poC_length, poC_length]) (infoP13 _) (poC_all _) ?_)
 intro w4 r4 hw4
 replace rz := rz.wrote hw4 (by omega)
 replace hbw := hw4.below _ _ (by omega) hbw
 clear rp hw4
 go_wp2_with (first | refine wpList_load_part rfl 58 _ rfl rfl [] (poC f) [] r4 (whole13 _) rfl Tryz.underlying58 rfl (infoP13 _) ?_ | (refine wpList_store_part rfl 58 _ _ rfl rfl (poC f) rfl [] (poC fun _ => 0) [] (poC f) rz (whole13 _) (whole13 _) rfl (by rw [poC_length, poC_length]) (infoP13 _) (poC_all _) ?_; intro w7 r7 hw7))
 refine bodyPost_blk rfl rfl rfl r7 Tryz.underlying58 rfl (infoP13 _) ?_
 exact ⟨by rw [HF.out, HB.out]; rfl, hw7.below _ _ (Nat.le_refl _) hbw⟩

set_option maxRecDepth 100000 in
set_option maxHeartbeats 2000000 in
theorem unpacked_any (d : Nat) (D : Int) (hD : D = (d : Int)) (h1 : 1 ≤ d) (h12 : d ≤ 12) (v : Value) (b : List UInt8) (w : World) (hb : Rd w v b) (hl : b.length = 32 * d) :
  Calls Tryz.prog 69 #[.int .i64 D, v] w fun e w' => e = .returned (poV (upF d b)) ∧ Below w.heap.size w w' := by
 have HR : Hid (Rd w v b) := hb
 have HL : Hid (b.length = 32 * d) := hl
 subst hD
 clear hb hl
 go_enter Tryz.func69, Tryz.ntmps69
 go_wp2_with (refine wpList_alloc_blk rfl 58 rfl (poC fun _ => 0) (allocP13 _) ?_)
 intro w1 rz b1 s1
 have hbw := b1
 have n1 : w.heap.size < w1.heap.size := by have := s1.out; omega
 have HR1 : Hid (Rd w1 v b) := Rd.kept HR.out b1
 clear b1 s1
 go_wp2_with fail
 refine (sunpack_any d _ rfl h1 h12 _ b _ HR1.out HL.out).mono ?_
 rintro e w2 ⟨rfl, b2⟩
 replace rz := rz.kept b2
 replace hbw := stepB hbw b2
 have n2 := b2.size
 clear b2
 obtain ⟨f, hf⟩ : ∃ f : Nat → FZ, f = upF d b := ⟨_, rfl⟩
 rw [← hf]
 have HF : Hid _ := hf
 clear hf
 go_wp2_with (refine wpList_alloc_blk rfl 58 rfl (poC fun _ => 0) (allocP13 _) ?_)
 intro w3 rp b3 s3
 replace rz := rz.kept b3
 replace hbw := stepB hbw b3
 clear b3 s3
 go_wp2_with (refine wpList_store_part rfl 58 _ _ rfl rfl (poC f) rfl [] (poC fun _ => 0) [] (poC f) rp (whole13 _) (whole13 _) rfl (by rw [poC_length, poC_length]) (infoP13 _) (poC_all _) ?_)
 intro w4 r4 hw4
 replace rz := rz.wrote hw4 (by omega)
 replace hbw := hw4.below _ _ (by omega) hbw
 clear rp hw4
 go_wp2_with (first | refine wpList_load_part rfl 58 _ rfl rfl [] (poC f) [] r4 (whole13 _) rfl Tryz.underlying58 rfl (infoP13 _) ?_ | (refine wpList_store_part rfl 58 _ _ rfl rfl (poC f) rfl [] (poC fun _ => 0) [] (poC f) rz (whole13 _) (whole13 _) rfl (by rw [poC_length, poC_length]) (infoP13 _) (poC_all _) ?_; intro w7 r7 hw7))
 refine bodyPost_blk rfl rfl rfl r7 Tryz.underlying58 rfl (infoP13 _) ?_
 exact ⟨by rw [HF.out], hw7.below _ _ (Nat.le_refl _) hbw⟩
end Go.Proofs.YtmhbjaampobcbaaGreatDoor
