/- What the document's own small polynomials and unpacked ones are, where nothing is refused: contracts of the reference of layer 12, third part. -/
import Derived.Test.YtmhbjaampobcbaaGreatDoorRef12b
namespace Go.Proofs.YtmhbjaampobcbaaGreatDoor
open Go.ChangeShapes Go.WideShapes Go.ChangeAt Go.RowKit
set_option linter.unusedSimpArgs false
set_option linter.unusedVariables false

theorem below_drewN12 {B : Nat} {w wr : World} (h : Below B w wr) : ∀ n, Below B w (wr.drewN n)
 | 0 => h
 | n + 1 => (below_drewN12 h n).drew
theorem noise_facts (e i j : Nat) (h1 : 1 ≤ e) (h3 : e ≤ 3) (hi : i < 256) (hj : j < e) : ∃ a2 ae ae2 m1 m2 : Nat, m1 = 2 * i * e + j ∧ m2 = 2 * i * e + e + j ∧ m1 < 512 * e ∧ m2 < 512 * e ∧
  IntKind.i64.wrap (2 * (i : Int)) = (a2 : Int) ∧ IntKind.i64.wrap ((a2 : Int) * (e : Int)) = (ae : Int) ∧ IntKind.i64.wrap ((ae : Int) + (j : Int)) = (m1 : Int) ∧ IntKind.i64.wrap ((ae : Int) + (e : Int)) = (ae2 : Int) ∧ IntKind.i64.wrap ((ae2 : Int) + (j : Int)) = (m2 : Int) := by
 have he : e = 1 ∨ e = 2 ∨ e = 3 := by omega
 refine ⟨2 * i, 2 * i * e, 2 * i * e + e, 2 * i * e + j, 2 * i * e + e + j, rfl, rfl, ?_, ?_, ?_, ?_, ?_, ?_, ?_⟩
 all_goals rcases he with rfl | rfl | rfl
 all_goals first | omega | (rw [IntWalk.i64_in _ (by omega)]; omega)
theorem pn_facts (N p q : Nat) (hp : p < 2) (hq : q < 2) (h1 : 3000 ≤ N) (h2 : N ≤ 4000) : ∃ (s : Int) (M : Nat), M = N + p - q ∧ IntKind.i64.wrap ((p : Int) - (q : Int)) = s ∧ IntKind.i64.wrap ((N : Int) + s) = (M : Int) := by
 refine ⟨(p : Int) - (q : Int), N + p - q, rfl, IntWalk.i64_in _ (by omega), ?_⟩
 rw [IntWalk.i64_in _ (by omega)]
 omega

set_option maxRecDepth 100000 in
set_option maxHeartbeats 4000000 in
theorem noise12_any (e : Nat) (E : Int) (hE : E = (e : Int)) (h1 : 1 ≤ e) (h3 : e ≤ 3) (v : Value) (b : List UInt8) (w : World) (hb : Rd w v b) (hbl : b.length = 64 * e) :
  Calls Tryz.prog 134 #[.int .i64 E, v] w fun r w' => r = .returned (.tuple #[poV (nsF e b), .int .i64 0]) ∧ Below w.heap.size w w' := by
 subst hE
 have HB : Hid (Rd w v b) := hb
 have HL : Hid (b.length = 64 * e) := hbl
 obtain ⟨ab, cb, rfl, -, -, -, -⟩ := id hb
 have c1 : decide ((e : Int) < 1) = false := decide_eq_false (by omega)
 have c2 : decide (3 < (e : Int)) = false := decide_eq_false (by omega)
 have c3 : (1 : Int) ≤ (e : Int) := by omega
 have c4 : (e : Int) ≤ 3 := by omega
 have c6 : ((b.length : Int) != 64 * (e : Int)) = false := by
  simp only [bne_eq_false_iff_eq]
  omega
 clear hb hbl
 go_enter Tryz.func134, Tryz.ntmps134
 go_wp2_with (refine wpList_alloc_row (k := .i64) rfl 57 rfl (gI fun _ => 0) (alloc_po _) (gI_ne _) (poMax _) ?_)
 intro w1 rz bn sn
 rw [gI_length] at rz
 have hbw := bn
 have n1 : w.heap.size < w1.heap.size := by have := sn.out; omega
 clear bn sn
 go_wp2_with (refine wpList_alloc_row (k := .i64) rfl 57 rfl (gI fun _ => 0) (alloc_po _) (gI_ne _) (poMax _) ?_)
 intro w2 rp bn sn
 rw [gI_length] at rp
 replace rz := rz.kept bn
 replace hbw := stepB hbw bn
 have n2 : w1.heap.size < w2.heap.size := by have := sn.out; omega
 clear bn sn
 go_wp2_with fail
 refine (bits12_any _ b _ (Rd.kept HB.out hbw) (by have := HL.out; omega)).mono ?_
 rintro e w3 ⟨vl, rfl, hNl⟩
 have hne : fP (btY b) (8 * b.length) ≠ [] := by
  intro e
  have := fP_length (btY b) (8 * b.length)
  rw [e] at this
  have h2 := HL.out
  simp at this
  omega
 obtain ⟨gl, cl, rfl, hgl, rl⟩ := hNl.row hne
 rw [fP_length]
 replace rz := rz.kept hNl.2
 replace rp := rp.kept hNl.2
 replace hbw := stepB hbw hNl.2
 obtain ⟨L8, hL8⟩ : ∃ L8 : Nat, L8 = 8 * b.length := ⟨_, rfl⟩
 rw [← hL8] at rl ⊢
 have HL8 : Hid (L8 = 8 * b.length) := hL8
 clear hNl hne hL8
 go_wp2
 go_loopw [8] (fun iv wx => ∃ (i : Nat) (H : Nat → Int), i ≤ 256 ∧ iv = .int .i64 (i : Int) ∧ Hid (∀ k, k < 256 → H k = if k < i then fzF (nsF e b) k else 0) ∧ RowAt .i64 57 w.heap.size 256 (gI fun _ => 0) wx ∧ RowAt .i64 57 w1.heap.size 256 (gI H) wx ∧ RowAt .i64 3 gl cl (fP (btY b) L8) wx ∧ Below w.heap.size w wx) (fun iv _ => 256 - (intOf iv).toNat)
 case atStart => exact ⟨0, fun _ => 0, by omega, rfl, (by show ∀ k, _; intro k _; rw [if_neg (by omega)]), rz, rp, rl, hbw⟩
 case round =>
  obtain ⟨i, H, hi, rfl, HH, rz', rp', rl', hbx⟩ := hrel
  clear rz rp rl hbw
  by_cases hlt : i < 256
  ·have hd : decide ((i : Int) < 256) = true := decide_eq_true (by omega)
   have hiI : (i : Int) < 256 := by omega
   go_wp2
   go_loopw [9, 10] (fun nv jv wx => ∃ j N : Nat, j ≤ e ∧ jv = .int .i64 (j : Int) ∧ nv = .int .i64 (N : Int) ∧ Hid (N = 3329 + cn b (2 * i * e) j - cn b (2 * i * e + e) j) ∧ RowAt .i64 57 w.heap.size 256 (gI fun _ => 0) wx ∧ RowAt .i64 57 w1.heap.size 256 (gI H) wx ∧ RowAt .i64 3 gl cl (fP (btY b) L8) wx ∧ Below w.heap.size w wx) (fun _ jv _ => e - (intOf jv).toNat)
   case atStart => exact ⟨0, 3329, by omega, rfl, rfl, (by show _ = _; rfl), rz', rp', rl', hbx⟩
   case round =>
    obtain ⟨j, N, hj, rfl, rfl, HN, rz2, rp2, rl2, hb2⟩ := hrel
    clear rz' rp' rl' hbx
    have hN1 : 3000 ≤ N ∧ N ≤ 4000 := by
     have k1 := cn_le b (2 * i * e) j
     have k2 := cn_le b (2 * i * e + e) j
     have := HN.out
     omega
    by_cases hltj : j < e
    ·have hdj : decide ((j : Int) < (e : Int)) = true := decide_eq_true (by omega)
     have hjI : (j : Int) < (e : Int) := by omega
     obtain ⟨a2, ae, ae2, m1, m2, hm1, hm2, l1, l2, x1, x2, x3, x4, x5⟩ := noise_facts e i j h1 h3 hlt hltj
     have hL1 : m1 < L8 := by have := HL8.out; have := HL.out; omega
     have hL2 : m2 < L8 := by have := HL8.out; have := HL.out; omega
     have q1 := rl2.cell (j := m1) (by rw [fP_length]; exact hL1)
     have q2 := rl2.cell (j := m2) (by rw [fP_length]; exact hL2)
     rw [fP_get _ _ _ hL1] at q1
     rw [fP_get _ _ _ hL2] at q2
     obtain ⟨s, M, hM, y1, y2⟩ := pn_facts N (btY b m1) (btY b m2) (btY_lt _ _) (btY_lt _ _) hN1.1 hN1.2
     have HNn : Hid (M = 3329 + cn b (2 * i * e) (j + 1) - cn b (2 * i * e + e) (j + 1)) := by
      show _ = 3329 + (cn b (2 * i * e) j + btY b (2 * i * e + j)) - (cn b (2 * i * e + e) j + btY b (2 * i * e + e + j))
      have k2 := cn_le b (2 * i * e + e) j
      have hn := HN.out
      rw [hM, ← hm1, ← hm2]
      have := btY_lt b m2
      omega
     have hL1I : (m1 : Int) < (L8 : Int) := by omega
     have hL2I : (m2 : Int) < (L8 : Int) := by omega
     generalize btY b m1 = p at q1 y1
     generalize btY b m2 = q at q2 y1
     clear hM hm1 hm2 l1 l2
     go_wp2_with fail
     go_quiet (fail)
     have bq := below_drewN12 (Below.refl wr.heap.size wr) nq
     replace rz2 := rz2.kept bq
     replace rp2 := rp2.kept bq
     replace rl2 := rl2.kept bq
     replace hb2 := stepB hb2 bq
     clear q1 q2 bq
     go_wp2
     go_roundw
     case rel => exact ⟨j + 1, M, by omega, by go_num, rfl, HNn, rz2, rp2, rl2, hb2⟩
     case measure => simp [intOf] <;> omega
    ·have hje : j = e := by omega
     have hdj : decide ((j : Int) < (e : Int)) = false := decide_eq_false (by omega)
     have hjI : (e : Int) ≤ (j : Int) := by omega
     obtain ⟨r, hr⟩ : ∃ r : Nat, r = N % 3329 := ⟨_, rfl⟩
     have x1 : ((N : Nat) : Int).tmod 3329 = (r : Int) := by rw [Int.tmod_eq_emod_of_nonneg (by omega)]; omega
     have x2 : IntKind.i64.wrap (r : Int) = (r : Int) := IntWalk.i64_in _ (by omega)
     have HHn : Hid (∀ k, k < 256 → (if k = i then ((r : Nat) : Int) else H k) = if k < i + 1 then fzF (nsF e b) k else 0) := by
      show ∀ k, _
      intro k hk
      by_cases h : k = i
      ·rw [if_pos h, if_pos (by omega), h, hr, HN.out, hje]
       rfl
      ·rw [if_neg h, HH.out k hk]
       by_cases h2 : k < i
       ·rw [if_pos h2, if_pos (by omega)]
       ·rw [if_neg h2, if_neg (by omega)]
     have HI : Hid (i < 256) := hlt
     clear hje hr
     go_wp2_with (refine wpList_store_int rfl _ _ rfl rfl (r : Int) rfl rp2 (by rw [gI_length]; exact HI.out) ?_)
     intro w8 r8 hw8
     rw [gI_set] at r8
     have rz8 := rz2.wrote hw8 (by omega)
     have rl8 := rl2.wrote hw8 (by omega)
     have hb8 := hw8.below _ _ (by omega) hb2
     clear rz2 rp2 rl2 hb2 hw8
     go_wp2
     go_roundw
     case rel => exact ⟨i + 1, _, by omega, by go_num, HHn, rz8, r8, rl8, hb8⟩
     case measure => simp [intOf] <;> omega
  ·have hie : i = 256 := by omega
   have hd : decide ((i : Int) < 256) = false := decide_eq_false (by omega)
   have hiI : (256 : Int) ≤ (i : Int) := by omega
   have HE : Hid (gI H = gI (fzF (nsF e b))) := by
    show _ = _
    exact gI_congr fun k hk => by rw [HH.out k hk, if_pos (by omega)]
   rw [HE.out] at rp'
   clear hie
   go_wp2_with (first | refine wpList_load_row rfl 57 _ rfl rfl rp' _ Tryz.underlying57 rfl (poInfo _) ?_ | (refine wpList_store_row rfl 57 _ _ rfl (gI (fzF (nsF e b))) rfl rfl rz' (by rw [gI_length, gI_length]) (poInfo _) ?_; intro w7 r7 hw7))
   refine bodyPost_po (k := .i64) rfl rfl rfl rfl r7 Tryz.underlying57 rfl (poInfo _) ?_
   exact ⟨rfl, hw7.below _ _ (Nat.le_refl _) hbx⟩
end Go.Proofs.YtmhbjaampobcbaaGreatDoor
