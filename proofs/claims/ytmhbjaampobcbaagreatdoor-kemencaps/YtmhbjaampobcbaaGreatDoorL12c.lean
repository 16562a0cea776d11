/- Small polynomials of bytes, and polynomials unpacked, where nothing is refused: contracts of package sample, third part. -/
import Derived.Test.YtmhbjaampobcbaaGreatDoorL12b
namespace Go.Proofs.YtmhbjaampobcbaaGreatDoor
open Go.ChangeShapes Go.WideShapes Go.ChangeAt Go.RowKit
set_option linter.unusedSimpArgs false
set_option linter.unusedVariables false

set_option maxRecDepth 100000 in
set_option maxHeartbeats 4000000 in
theorem snoise_any (e : Nat) (E : Int) (hE : E = (e : Int)) (h1 : 1 ≤ e) (h3 : e ≤ 3) (v : Value) (b : List UInt8) (w : World) (hb : Rd w v b) (hbl : b.length = 64 * e) :
  Calls Tryz.prog 151 #[.int .i64 E, v] w fun r w' => r = .returned (.tuple #[poV (nsF e b), .int .i64 0]) ∧ Below w.heap.size w w' := by
 subst hE
 have HB : Hid (Rd w v b) := hb
 have HL : Hid (b.length = 64 * e) := hbl
 obtain ⟨ab, cb, rfl, -, -, -, -⟩ := id hb
 obtain ⟨N, hN⟩ : ∃ N : Nat, N = b.length := ⟨_, rfl⟩
 obtain ⟨s, hs⟩ : ∃ s : Nat, s = 64 * e := ⟨_, rfl⟩
 have c6 : ((N : Int) != (s : Int)) = false := by
  simp only [bne_eq_false_iff_eq]
  omega
 have c7 : (N : Int) = (s : Int) := by omega
 rw [← hN]
 rw [← hN] at HB
 have HS : Hid (s = 64 * e) := hs
 have HN : Hid (N = b.length) := hN
 clear hb hbl hs hN
 go_enter Tryz.func151, Tryz.ntmps151
 go_wp2_with (refine wpList_alloc_row (k := .i64) rfl 58 rfl (gI fun _ => 0) (alloc_poS _) (gI_ne _) (poMax _) ?_)
 intro w1 rz bn sn
 rw [gI_length] at rz
 have hbw := bn
 have n1 : w.heap.size < w1.heap.size := by have := sn.out; omega
 clear bn sn
 go_wp2_with fail
 refine (isEta_in e (by omega) (by omega) _).mono ?_
 rintro r w1 ⟨rfl, rfl⟩
 go_wp2_with fail
 refine (noiseSize_any e _ rfl (by omega) _).mono ?_
 rintro r w1 ⟨rfl, rfl⟩
 rw [← HS.out]
 go_wp2_with (refine wpList_alloc_row (k := .i64) rfl 58 rfl (gI fun _ => 0) (alloc_poS _) (gI_ne _) (poMax _) ?_)
 intro w2 rp bn sn
 rw [gI_length] at rp
 replace rz := rz.kept bn
 replace hbw := stepB hbw bn
 clear bn sn c6 c7
 go_wp2
 go_loopw [20] (fun iv wx => ∃ (i : Nat) (H : Nat → Int), i ≤ 256 ∧ iv = .int .i64 (i : Int) ∧ Hid (∀ k, k < i → H k = fzF (nsF e b) k) ∧ RowAt .i64 58 w.heap.size 256 (gI fun _ => 0) wx ∧ RowAt .i64 58 w1.heap.size 256 (gI H) wx ∧ Below w.heap.size w wx) (fun iv _ => 256 - (intOf iv).toNat)
 case atStart => exact ⟨0, fun _ => 0, by omega, rfl, (by show ∀ k, _; intro k hk; omega), rz, rp, hbw⟩
 case round =>
  obtain ⟨i, H, hi, rfl, HH, rz', rp', hbx⟩ := hrel
  clear rz rp hbw
  by_cases hlt : i < 256
  ·have hd : decide ((i : Int) < 256) = true := decide_eq_true (by omega)
   have hiI : (i : Int) < 256 := by omega
   obtain ⟨a2, ae, ae2, hae, hae2, hl, x1, x2, x3⟩ := noise2_facts e i h1 h3 hlt
   have HR : Hid (Rd wr (.slice ab N cb) b) := Rd.kept HB.out hbx
   have HE : Hid _ := ns_sub e b i h3
   rw [← hae2, ← hae] at HE
   have HAe : Hid (ae2 + e ≤ 8 * b.length) := by have := HL.out; show _ ≤ _; omega
   have HAe0 : Hid (ae + e ≤ ae2 + e ∧ ae ≤ 1000000 ∧ ae2 ≤ 1000000) := by show _ ∧ _; omega
   have HI : Hid (i < 256) := hlt
   clear hae hae2 hl
   go_wp2_with fail
   refine (ones_any _ b ae e _ _ rfl rfl (by omega) (by have := HAe.out; have := HAe0.out; omega) (by have := HAe0.out; omega) _ HR.out).mono ?_
   rintro r w4 ⟨rfl, rfl⟩
   go_wp2_with fail
   refine (ones_any _ b ae2 e _ _ rfl rfl (by omega) HAe.out (by have := HAe0.out; omega) _ HR.out).mono ?_
   rintro r w4 ⟨rfl, rfl⟩
   have k1 := cn_le b ae e
   have k2 := cn_le b ae2 e
   generalize cn b ae e = p at HE k1
   generalize cn b ae2 e = q at HE k2
   go_wp2_with fail
   refine (zsub_any _ _ (by show _ ∧ _; omega) (by show _ ∧ _; omega) _).mono ?_
   rintro r w4 ⟨rfl, rfl⟩
   have HG := put_placeS HH.out
   rw [← HE.out] at HG
   have HG5 : Hid _ := HG
   clear HG
   generalize rsZ ((p : Int) - (q : Int)) = z at HG5
   go_wp2_with (refine wpList_store_int rfl _ _ rfl rfl (z : Int) rfl rp' (by rw [gI_length]; exact HI.out) ?_)
   intro w8 r8 hw8
   rw [gI_set] at r8
   have rz8 := rz'.wrote hw8 (by omega)
   have hb8 := hw8.below _ _ (by omega) hbx
   clear rz' rp' hbx hw8
   go_wp2
   go_roundw
   case rel => exact ⟨i + 1, _, by omega, by go_num, HG5, rz8, r8, hb8⟩
   case measure => simp [intOf] <;> omega
  ·have hie : i = 256 := by omega
   have hd : decide ((i : Int) < 256) = false := decide_eq_false (by omega)
   have hiI : (256 : Int) ≤ (i : Int) := by omega
   have HE : Hid (gI H = gI (fzF (nsF e b))) := by
    show _ = _
    exact gI_congr fun k hk => HH.out k (by omega)
   rw [HE.out] at rp'
   clear hie
   go_wp2_with (first | refine wpList_load_row rfl 58 _ rfl rfl rp' _ Tryz.underlying58 rfl (poInfoS _) ?_ | (refine wpList_store_row rfl 58 _ _ rfl (gI (fzF (nsF e b))) rfl rfl rz' (by rw [gI_length, gI_length]) (poInfoS _) ?_; intro w7 r7 hw7))
   refine bodyPost_po (k := .i64) rfl rfl rfl rfl r7 Tryz.underlying58 rfl (poInfoS _) ?_
   exact ⟨rfl, hw7.below _ _ (Nat.le_refl _) hbx⟩

theorem mul_facts12 (d i : Nat) (h2 : d ≤ 12) (hi : i < 256) : ∃ a : Nat, a = d * i ∧ a + d ≤ 256 * d ∧ IntKind.i64.wrap ((d : Int) * (i : Int)) = (a : Int) ∧ (d : Int) * (i : Int) = (a : Int) := by
 have h3 : d * i + d ≤ 256 * d := by
  have := Nat.mul_le_mul_left d (show i + 1 ≤ 256 by omega)
  rw [Nat.mul_succ, Nat.mul_comm d 256] at this
  exact this
 refine ⟨d * i, rfl, h3, ?_, by rw [Int.natCast_mul]⟩
 rw [← Int.natCast_mul]
 exact IntWalk.i64_in _ (by omega)
theorem bs_small12 (f : Nat → Nat) (hf : ∀ k, f k < 2) (o n : Nat) (hn : n ≤ 12) : bs f o n < 4096 := by
 have h1 := bs_lt f hf n o
 have h2 : 2 ^ n ≤ 2 ^ 12 := Nat.pow_le_pow_right (by decide) hn
 have h3 : (2 : Nat) ^ 12 = 4096 := by decide
 omega

set_option maxRecDepth 100000 in
set_option maxHeartbeats 4000000 in
theorem sunpack_any (e : Nat) (E : Int) (hE : E = (e : Int)) (h1 : 1 ≤ e) (h3 : e ≤ 12) (v : Value) (b : List UInt8) (w : World) (hb : Rd w v b) (hbl : b.length = 32 * e) :
  Calls Tryz.prog 58 #[.int .i64 E, v] w fun r w' => r = .returned (.tuple #[poV (upF e b), .int .i64 0]) ∧ Below w.heap.size w w' := by
 subst hE
 have HB : Hid (Rd w v b) := hb
 have HL : Hid (b.length = 32 * e) := hbl
 obtain ⟨ab, cb, rfl, -, -, -, -⟩ := id hb
 obtain ⟨N, hN⟩ : ∃ N : Nat, N = b.length := ⟨_, rfl⟩
 obtain ⟨s, hs⟩ : ∃ s : Nat, s = 32 * e := ⟨_, rfl⟩
 have c6 : ((N : Int) != (s : Int)) = false := by
  simp only [bne_eq_false_iff_eq]
  omega
 have c7 : (N : Int) = (s : Int) := by omega
 rw [← hN]
 rw [← hN] at HB
 have HS : Hid (s = 32 * e) := hs
 have HN : Hid (N = b.length) := hN
 clear hb hbl hs hN
 go_enter Tryz.func58, Tryz.ntmps58
 go_wp2_with (refine wpList_alloc_row (k := .i64) rfl 58 rfl (gI fun _ => 0) (alloc_poS _) (gI_ne _) (poMax _) ?_)
 intro w1 rz bn sn
 rw [gI_length] at rz
 have hbw := bn
 have n1 : w.heap.size < w1.heap.size := by have := sn.out; omega
 clear bn sn
 go_wp2_with fail
 refine (packs_in e (by omega) (by omega) _).mono ?_
 rintro r w1 ⟨rfl, rfl⟩
 go_wp2_with fail
 refine (packSize_any e _ rfl (by omega) _).mono ?_
 rintro r w1 ⟨rfl, rfl⟩
 rw [← HS.out]
 go_wp2_with (refine wpList_alloc_row (k := .i64) rfl 58 rfl (gI fun _ => 0) (alloc_poS _) (gI_ne _) (poMax _) ?_)
 intro w2 rp bn sn
 rw [gI_length] at rp
 replace rz := rz.kept bn
 replace hbw := stepB hbw bn
 clear bn sn c6 c7
 go_wp2
 go_loopw [19] (fun iv wx => ∃ (i : Nat) (H : Nat → Int), i ≤ 256 ∧ iv = .int .i64 (i : Int) ∧ Hid (∀ k, k < i → H k = fzF (upF e b) k) ∧ RowAt .i64 58 w.heap.size 256 (gI fun _ => 0) wx ∧ RowAt .i64 58 w1.heap.size 256 (gI H) wx ∧ Below w.heap.size w wx) (fun iv _ => 256 - (intOf iv).toNat)
 case atStart => exact ⟨0, fun _ => 0, by omega, rfl, (by show ∀ k, _; intro k hk; omega), rz, rp, hbw⟩
 case round =>
  obtain ⟨i, H, hi, rfl, HH, rz', rp', hbx⟩ := hrel
  clear rz rp hbw
  by_cases hlt : i < 256
  ·have hd : decide ((i : Int) < 256) = true := decide_eq_true (by omega)
   have hiI : (i : Int) < 256 := by omega
   obtain ⟨ae, hae, hl, x1, -⟩ := mul_facts12 e i h3 hlt
   have HR : Hid (Rd wr (.slice ab N cb) b) := Rd.kept HB.out hbx
   have HE : Hid (rsZ ((bs (btY b) ae e : Nat) : Int) = (upF e b i).val) := by rw [hae]; exact upF_val e b i
   have HAe : Hid (ae + e ≤ 8 * b.length ∧ ae ≤ 1000000) := by have := HL.out; show _ ∧ _; omega
   have HI : Hid (i < 256) := hlt
   clear hae hl
   go_wp2_with fail
   refine (number_any _ b ae e _ _ rfl rfl (by omega) HAe.out.1 HAe.out.2 _ HR.out).mono ?_
   rintro r w4 ⟨rfl, rfl⟩
   have k1 := bs_small12 (btY b) (btY_lt b) ae e h3
   generalize bs (btY b) ae e = p at HE k1
   go_wp2_with fail
   refine (zmod_any _ (by show _ ∧ _; omega) _).mono ?_
   rintro r w4 ⟨rfl, rfl⟩
   have HG := put_placeS HH.out
   rw [← HE.out] at HG
   have HG5 : Hid _ := HG
   clear HG
   generalize rsZ (p : Int) = z at HG5
   go_wp2_with (refine wpList_store_int rfl _ _ rfl rfl (z : Int) rfl rp' (by rw [gI_length]; exact HI.out) ?_)
   intro w8 r8 hw8
   rw [gI_set] at r8
   have rz8 := rz'.wrote hw8 (by omega)
   have hb8 := hw8.below _ _ (by omega) hbx
   clear rz' rp' hbx hw8
   go_wp2
   go_roundw
   case rel => exact ⟨i + 1, _, by omega, by go_num, HG5, rz8, r8, hb8⟩
   case measure => simp [intOf] <;> omega
  ·have hie : i = 256 := by omega
   have hd : decide ((i : Int) < 256) = false := decide_eq_false (by omega)
   have hiI : (256 : Int) ≤ (i : Int) := by omega
   have HE : Hid (gI H = gI (fzF (upF e b))) := by
    show _ = _
    exact gI_congr fun k hk => HH.out k (by omega)
   rw [HE.out] at rp'
   clear hie
   go_wp2_with (first | refine wpList_load_row rfl 58 _ rfl rfl rp' _ Tryz.underlying58 rfl (poInfoS _) ?_ | (refine wpList_store_row rfl 58 _ _ rfl (gI (fzF (upF e b))) rfl rfl rz' (by rw [gI_length, gI_length]) (poInfoS _) ?_; intro w7 r7 hw7))
   refine bodyPost_po (k := .i64) rfl rfl rfl rfl r7 Tryz.underlying58 rfl (poInfoS _) ?_
   exact ⟨rfl, hw7.below _ _ (Nat.le_refl _) hbx⟩
end Go.Proofs.YtmhbjaampobcbaaGreatDoor
