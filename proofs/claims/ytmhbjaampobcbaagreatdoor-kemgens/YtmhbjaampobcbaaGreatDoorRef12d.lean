/- What the document's own unpacked polynomials are: a contract of the reference of layer 12, fourth part. -/
import Derived.Test.YtmhbjaampobcbaaGreatDoorRef12c
namespace Go.Proofs.YtmhbjaampobcbaaGreatDoor
open Go.ChangeShapes Go.WideShapes Go.ChangeAt Go.RowKit
set_option linter.unusedSimpArgs false
set_option linter.unusedVariables false

theorem place_facts (d i j : Nat) (h1 : 1 ≤ d) (h2 : d ≤ 12) (hi : i < 256) (hj : j < d) : ∃ a q : Nat, q = d * i + j ∧ q < 256 * d ∧ IntKind.i64.wrap ((d : Int) * (i : Int)) = (a : Int) ∧ IntKind.i64.wrap ((a : Int) + (j : Int)) = (q : Int) := by
 have h3 : d * i + d ≤ 256 * d := by
  have := Nat.mul_le_mul_left d (show i + 1 ≤ 256 by omega)
  rw [Nat.mul_succ, Nat.mul_comm d 256] at this
  exact this
 refine ⟨d * i, d * i + j, rfl, by omega, ?_, ?_⟩
 ·rw [← Int.natCast_mul]
  exact IntWalk.i64_in _ (by omega)
 ·generalize d * i = a at h3
  rw [IntWalk.i64_in _ (by omega)]
  omega
theorem twice_facts (x p : Nat) (hx : x < 4096) (hp : p < 2) : ∃ t y : Nat, y = p + 2 * x ∧ IntKind.i64.wrap ((x : Int) * 2) = (t : Int) ∧ IntKind.i64.wrap ((t : Int) + (p : Int)) = (y : Int) := by
 refine ⟨2 * x, p + 2 * x, rfl, ?_, ?_⟩
 ·rw [IntWalk.i64_in _ (by omega)]; omega
 ·rw [IntWalk.i64_in _ (by omega)]; omega
theorem bs_small (f : Nat → Nat) (hf : ∀ k, f k < 2) (o n : Nat) (hn : n ≤ 12) : bs f o n < 4096 := by
 have h1 := bs_lt f hf n o
 have h2 : 2 ^ n ≤ 2 ^ 12 := Nat.pow_le_pow_right (by decide) hn
 have h3 : (2 : Nat) ^ 12 = 4096 := by decide
 omega

set_option maxRecDepth 100000 in
set_option maxHeartbeats 4000000 in
theorem unpack12_any (d : Nat) (D : Int) (hD : D = (d : Int)) (h1 : 1 ≤ d) (h3 : d ≤ 12) (v : Value) (b : List UInt8) (w : World) (hb : Rd w v b) (hbl : b.length = 32 * d) :
  Calls Tryz.prog 64 #[.int .i64 D, v] w fun r w' => r = .returned (.tuple #[poV (upF d b), .int .i64 0]) ∧ Below w.heap.size w w' := by
 subst hD
 have HB : Hid (Rd w v b) := hb
 have HL : Hid (b.length = 32 * d) := hbl
 obtain ⟨ab, cb, rfl, -, -, -, -⟩ := id hb
 have c1 : decide ((d : Int) < 1) = false := decide_eq_false (by omega)
 have c2 : decide (12 < (d : Int)) = false := decide_eq_false (by omega)
 have c3 : (1 : Int) ≤ (d : Int) := by omega
 have c4 : (d : Int) ≤ 12 := by omega
 have c6 : ((b.length : Int) != 32 * (d : Int)) = false := by
  simp only [bne_eq_false_iff_eq]
  omega
 clear hb hbl
 go_enter Tryz.func64, Tryz.ntmps64
 go_wp2_with (refine wpList_alloc_row (k := .i64) rfl 57 rfl (gI fun _ => 0) (alloc_po _) (gI_ne _) (poMax _) ?_)
 intro w1 rz bn sn
 rw [gI_length] at rz
 have hbw := bn
 have n1 : w.heap.size < w1.heap.size := by have := sn.out; omega
 clear bn sn
 go_wp2_with (refine wpList_alloc_row (k := .i64) rfl 57 rfl (gI fun _ => 0) (alloc_po _) (gI_ne _) (poMax _) ?_)
 intro w2 rp bn sn
 rw [gI_length] at rp
 replace rz := rz.kept bn
 replace hbw := stepB hbw bn
 have n2 : w1.heap.size < w2.heap.size := by have := sn.out; omega
 clear bn sn
 go_wp2_with fail
 refine (bits12_any _ b _ (Rd.kept HB.out hbw) (by have := HL.out; omega)).mono ?_
 rintro e w3 ⟨vl, rfl, hNl⟩
 have hne : fP (btY b) (8 * b.length) ≠ [] := by
  intro e
  have := fP_length (btY b) (8 * b.length)
  rw [e] at this
  have h2 := HL.out
  simp at this
  omega
 obtain ⟨gl, cl, rfl, hgl, rl⟩ := hNl.row hne
 rw [fP_length]
 replace rz := rz.kept hNl.2
 replace rp := rp.kept hNl.2
 replace hbw := stepB hbw hNl.2
 obtain ⟨L8, hL8⟩ : ∃ L8 : Nat, L8 = 8 * b.length := ⟨_, rfl⟩
 rw [← hL8] at rl ⊢
 have HL8 : Hid (L8 = 8 * b.length) := hL8
 clear hNl hne hL8
 go_wp2
 go_loopw [8] (fun iv wx => ∃ (i : Nat) (H : Nat → Int), i ≤ 256 ∧ iv = .int .i64 (i : Int) ∧ Hid (∀ k, k < 256 → H k = if k < i then fzF (upF d b) k else 0) ∧ RowAt .i64 57 w.heap.size 256 (gI fun _ => 0) wx ∧ RowAt .i64 57 w1.heap.size 256 (gI H) wx ∧ RowAt .i64 3 gl cl (fP (btY b) L8) wx ∧ Below w.heap.size w wx) (fun iv _ => 256 - (intOf iv).toNat)
 case atStart => exact ⟨0, fun _ => 0, by omega, rfl, (by show ∀ k, _; intro k _; rw [if_neg (by omega)]), rz, rp, rl, hbw⟩
 case round =>
  obtain ⟨i, H, hi, rfl, HH, rz', rp', rl', hbx⟩ := hrel
  clear rz rp rl hbw
  by_cases hlt : i < 256
  ·have hd : decide ((i : Int) < 256) = true := decide_eq_true (by omega)
   have hiI : (i : Int) < 256 := by omega
   have HC : Hid (∀ m, m < L8 → wr.cell? ⟨gl, m, none⟩ = some (.int .i64 ((btY b m : Nat) : Int))) := by
    show ∀ m, _
    intro m hm
    have := rl'.cell (j := m) (by rw [fP_length]; exact hm)
    rw [fP_get _ _ _ hm] at this
    exact this
   have xd : IntKind.i64.wrap ((d : Int) - 1) = (d : Int) - 1 := IntWalk.i64_in _ (by omega)
   rename World => wv
   go_wp2
   go_loop [9, 10] (fun nv jv => ∃ m N : Nat, m ≤ d ∧ jv = .int .i64 ((m : Int) - 1) ∧ nv = .int .i64 (N : Int) ∧ Hid (N = bs (btY b) (d * i + m) (d - m))) (fun _ jv => (intOf jv + 1).toNat)
   case atStart => exact ⟨d, 0, by omega, rfl, rfl, (by show _ = _; rw [Nat.sub_self]; rfl)⟩
   case round =>
    obtain ⟨m, N, hm, rfl, rfl, HN⟩ := hrel
    by_cases h0 : m = 0
    ·have hj1 : ((m : Int) - 1) = -1 := by omega
     rw [hj1]
     obtain ⟨r, hr⟩ : ∃ r : Nat, r = N % 3329 := ⟨_, rfl⟩
     have x1 : ((N : Nat) : Int).tmod 3329 = (r : Int) := by rw [Int.tmod_eq_emod_of_nonneg (by omega)]; omega
     have x2 : IntKind.i64.wrap (r : Int) = (r : Int) := IntWalk.i64_in _ (by omega)
     have HHn : Hid (∀ k, k < 256 → (if k = i then ((r : Nat) : Int) else H k) = if k < i + 1 then fzF (upF d b) k else 0) := by
      show ∀ k, _
      intro k hk
      by_cases h : k = i
      ·rw [if_pos h, if_pos (by omega), h, hr, HN.out, h0]
       rfl
      ·rw [if_neg h, HH.out k hk]
       by_cases h2 : k < i
       ·rw [if_pos h2, if_pos (by omega)]
       ·rw [if_neg h2, if_neg (by omega)]
     have HI : Hid (i < 256) := hlt
     clear hr hj1 h0 hm HC
     go_wp2_with (refine wpList_store_int rfl _ _ rfl rfl (r : Int) rfl rp' (by rw [gI_length]; exact HI.out) ?_)
     intro w8 r8 hw8
     rw [gI_set] at r8
     have rz8 := rz'.wrote hw8 (by omega)
     have rl8 := rl'.wrote hw8 (by omega)
     have hb8 := hw8.below _ _ (by omega) hbx
     clear rz' rp' rl' hbx hw8
     go_wp2
     go_roundw
     case rel => exact ⟨i + 1, _, by omega, by go_num, HHn, rz8, r8, rl8, hb8⟩
     case measure => simp [intOf] <;> omega
    ·obtain ⟨j, rfl⟩ : ∃ j, m = j + 1 := ⟨m - 1, by omega⟩
     have hj : j < d := by omega
     have hjI : (((j + 1 : Nat) : Int) - 1) = (j : Int) := by omega
     rw [hjI]
     have hd0 : decide ((0 : Int) ≤ (j : Int)) = true := decide_eq_true (by omega)
     obtain ⟨a, q, hq, hq2, x1, x2⟩ := place_facts d i j h1 h3 hlt hj
     have hqL : q < L8 := by have := HL8.out; have := HL.out; omega
     have hqI : (q : Int) < (L8 : Int) := by omega
     have cq := HC.out q hqL
     have hNs : N < 4096 := by rw [HN.out]; exact bs_small _ (btY_lt b) _ _ (by omega)
     obtain ⟨t, y, hy, y1, y2⟩ := twice_facts N (btY b q) hNs (btY_lt b q)
     have HNn : Hid (y = bs (btY b) (d * i + j) (d - j)) := by
      show _ = _
      rw [show d - j = (d - (j + 1)) + 1 by omega, bs_succ, hy, hq, HN.out]
      rfl
     generalize btY b q = p at cq y2
     clear hy hq hq2 hjI h0 hm
     go_wp2
     go_round
     case rel => exact ⟨j, y, by omega, by go_num, rfl, HNn⟩
     case measure => simp [intOf] <;> omega
  ·have hie : i = 256 := by omega
   have hd : decide ((i : Int) < 256) = false := decide_eq_false (by omega)
   have hiI : (256 : Int) ≤ (i : Int) := by omega
   have HE : Hid (gI H = gI (fzF (upF d b))) := by
    show _ = _
    exact gI_congr fun k hk => by rw [HH.out k hk, if_pos (by omega)]
   rw [HE.out] at rp'
   clear hie
   go_wp2_with (first | refine wpList_load_row rfl 57 _ rfl rfl rp' _ Tryz.underlying57 rfl (poInfo _) ?_ | (refine wpList_store_row rfl 57 _ _ rfl (gI (fzF (upF d b))) rfl rfl rz' (by rw [gI_length, gI_length]) (poInfo _) ?_; intro w7 r7 hw7))
   refine bodyPost_po (k := .i64) rfl rfl rfl rfl r7 Tryz.underlying57 rfl (poInfo _) ?_
   exact ⟨rfl, hw7.below _ _ (Nat.le_refl _) hbx⟩
end Go.Proofs.YtmhbjaampobcbaaGreatDoor
