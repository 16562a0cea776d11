/- What the statements ask first, the least and the greatest, is answered with yes. -/
import Derived.Test.YtikkfmghjfddfabF05f
import Derived.Test.YtikkfmghjfddfabF05h
namespace Go.Proofs.Ytikkfmghjfddfab
open Go.ChangeShapes Go.WideShapes Go.ChangeAt Go.RowKit
set_option linter.unusedSimpArgs false
set_option linter.unusedVariables false

/-- Some bytes 255, then noughts. -/
def ffB (i : Nat) : List UInt8 := List.replicate i 255 ++ List.replicate (32 - i) 0
theorem ffB_zero : ffB 0 = zs32 := rfl
theorem ffB_length (i : Nat) (h : i ≤ 32) : (ffB i).length = 32 := by
  simp [ffB]
  omega
theorem ffB_next : ∀ i, i < 32 → (ffB i).set i 255 = ffB (i + 1) := by decide +kernel
theorem ff_facts : (enL (decN (ffB 32))).getD 0 0 = 18 ∧ (enL (decN (ffB 32))).getD 1 0 = 0 := by decide +kernel
theorem ly_facts : (enL (0 + (pN - 1 % pN))).getD 0 0 = 236 ∧ (enL (0 + (pN - 1 % pN))).getD 31 0 = 127 := by decide +kernel
theorem lz_facts : (enL 1).getD 0 0 = 1 ∧ (enL 1).getD 31 0 = 0 := by decide +kernel
theorem awake_y (r : List Nat) (h : (wv r + wv [1, 0, 0, 0]) % pN = wv z4 % pN) : enL (wv r) = enL (0 + (pN - 1 % pN)) := by
  rw [enL_same]
  rw [wv_small, z4_wv] at h
  exact sub_rest _ _ _ h
theorem three_ne : 3 % pN ≠ 0 := by decide +kernel
theorem awake_z (r m : List Nat) (h : wv r % pN = wv [3, 0, 0, 0] ^ exN % pN) (h2 : wv m % pN = wv [3, 0, 0, 0] * wv r % pN) : enL (wv m) = enL 1 := by
  rw [enL_same]
  rw [wv_small] at h h2
  rw [h2, Nat.mul_mod, h, ← Nat.mul_mod, Nat.mul_comm]
  exact inv_one 3 three_ne
theorem awake_same (r : List Nat) (k n : Nat) (h : wv r % pN = k % pN) (hk : k = n) : decide (wv r % pN = wv [n, 0, 0, 0] % pN) = true := by
  subst hk
  rw [wv_small, h]
  exact decide_eq_true rfl
theorem fsame_bool (A B : Array Value) (a b : List Nat) (d : Bool) (ha : El4 a) (hb : El4 b) (hd : decide (wv a % pN = wv b % pN) = d) (hA : A = ((nI a).map (Value.int .u64)).toArray) (hB : B = ((nI b).map (Value.int .u64)).toArray) (w : World) :
    Calls Try.prog 8 #[.agg A, .agg B] w fun e w' => e = .returned (.bool d) ∧ Below w.heap.size w w' := by
  subst hd
  exact fsame_any A B a b ha hb hA hB w
theorem awake_not : decide (wv [1, 0, 0, 0] % pN = wv [2, 0, 0, 0] % pN) = false := by decide +kernel

set_option maxRecDepth 100000 in
set_option maxHeartbeats 8000000 in
theorem awake_any (w : World) : Calls Try.prog 7 #[] w fun e w' => e = .returned (.bool true) ∧ Below w.heap.size w w' := by
  go_enter Try.func7, Try.ntmps7
  go_wp2_with (refine wpList_alloc_row (k := .u8) rfl 40 rfl (byI zs32) (alloc32 _) (byI_ne zs32_ne) (by rw [byI_length, zs32_length]; decide) ?_)
  intro w1 r1 b1 s1
  rw [byI_length, zs32_length, ← ffB_zero] at r1
  clear s1
  go_wp2
  go_loopw [2] (fun iv wx => ∃ i : Nat, i ≤ 32 ∧ iv = .int .i64 (i : Int) ∧ RowAt .u8 40 w.heap.size 32 (byI (ffB i)) wx ∧ Below w.heap.size w wx) (fun iv _ => 32 - (intOf iv).toNat)
  case atStart => exact ⟨0, by omega, rfl, r1, b1⟩
  case round =>
    obtain ⟨i, hi, rfl, ra, hb⟩ := hrel
    clear r1 b1
    by_cases hlt : i < 32
    · have hd : decide ((i : Int) < 32) = true := decide_eq_true (by omega)
      have hiI : (i : Int) < 32 := by omega
      have hc := ra.cellB (j := i) (by rw [ffB_length i hi]; exact hlt)
      have hf := ra.free i
      have rn := ra.setB i 255
      rw [ffB_next i hlt] at rn
      have hbn : Below w.heap.size w (wr.setCell ⟨w.heap.size, i, none⟩ (.int .u8 (((255 : UInt8).toNat : Nat) : Int))) := (Wrote.set w.heap.size i wr _).below _ _ (Nat.le_refl _) hb
      clear ra hb
      go_wp2
      go_roundw
      case rel => exact ⟨i + 1, by omega, by go_num, rn, hbn⟩
      case measure => simp [intOf] <;> omega
    · have hie : i = 32 := by omega
      have hd : decide ((i : Int) < 32) = false := decide_eq_false (by omega)
      have hiI : (32 : Int) ≤ (i : Int) := by omega
      rw [hie] at ra
      have hrd := ra.rdB
      rw [ffB_length 32 (by omega)] at hrd
      clear hie ra
      go_wp2_with fail
      refine (fdecode_any _ _ _ hrd).mono ?_
      rintro e w2 ⟨l2, rfl, h2, hv2, b2⟩
      replace hb := stepB hb b2
      clear hrd b2
      go_wp2_with fail
      refine (fencode_any _ l2 h2 rfl _).mono ?_
      rintro e w3 ⟨vx, rfl, hN3⟩
      rw [hv2] at hN3
      obtain ⟨k1, k2⟩ := ff_facts
      have kl := enL_length (decN (ffB 32))
      have hx := hN3.rd
      replace hb := stepB hb hN3.2
      generalize enL (decN (ffB 32)) = X at hx k1 k2 kl
      clear hN3 hv2 h2
      go_wp2_with fail
      refine (fsub_any _ _ z4 [1, 0, 0, 0] z4_el (small4 1 (by decide)) rfl rfl _).mono ?_
      rintro e w4 ⟨l4, rfl, h4, hv4, b4⟩
      replace hx := hx.kept b4
      replace hb := stepB hb b4
      clear b4
      go_wp2_with fail
      refine (fencode_any _ l4 h4 rfl _).mono ?_
      rintro e w5 ⟨vy, rfl, hN5⟩
      rw [awake_y l4 hv4] at hN5
      obtain ⟨k3, k4⟩ := ly_facts
      have kly := enL_length (0 + (pN - 1 % pN))
      have hy := hN5.rd
      replace hx := hx.kept hN5.2
      replace hb := stepB hb hN5.2
      generalize enL (0 + (pN - 1 % pN)) = Y at hy k3 k4 kly
      clear hN5 hv4 h4
      go_wp2_with fail
      refine (finvert_any _ [3, 0, 0, 0] (small4 3 (by decide)) rfl _).mono ?_
      rintro e w6 ⟨l6, rfl, h6, hv6, b6⟩
      replace hx := hx.kept b6
      replace hy := hy.kept b6
      replace hb := stepB hb b6
      have HV6 : Hid _ := hv6
      clear b6 hv6
      go_wp2_with fail
      refine (fmul_any _ _ [3, 0, 0, 0] l6 (small4 3 (by decide)) h6 rfl rfl _).mono ?_
      rintro e w7 ⟨l7, rfl, h7, hv7, b7⟩
      have HZ : Hid (enL (wv l7) = enL 1) := awake_z l6 l7 HV6.out hv7
      replace hx := hx.kept b7
      replace hy := hy.kept b7
      replace hb := stepB hb b7
      clear b7 hv7 HV6
      go_wp2_with fail
      refine (fencode_any _ l7 h7 rfl _).mono ?_
      rintro e w8 ⟨vz, rfl, hN8⟩
      rw [HZ.out] at hN8
      obtain ⟨k5, k6⟩ := lz_facts
      have klz := enL_length 1
      have hz := hN8.rd
      replace hx := hx.kept hN8.2
      replace hy := hy.kept hN8.2
      replace hb := stepB hb hN8.2
      generalize enL 1 = Z at hz k5 k6 klz
      clear hN8 HZ h7 h6
      obtain ⟨bx, ox, cx, rfl, hcx, cx0, -⟩ := hx.cellAt (i := 0) (by omega)
      obtain ⟨bx', ox', cx', ev, -, cx1, -⟩ := hx.cellAt (i := 1) (by omega)
      simp only [Value.slice.injEq, Option.some.injEq, Addr.mk.injEq, and_true, true_and] at ev
      obtain ⟨⟨rfl, rfl⟩, rfl⟩ := ev
      obtain ⟨bY, oy, cy, rfl, hcy, cy0, -⟩ := hy.cellAt (i := 0) (by omega)
      obtain ⟨by', oy', cy', ev, -, cy1, -⟩ := hy.cellAt (i := 31) (by omega)
      simp only [Value.slice.injEq, Option.some.injEq, Addr.mk.injEq, and_true, true_and] at ev
      obtain ⟨⟨rfl, rfl⟩, rfl⟩ := ev
      obtain ⟨bz, oz, cz, rfl, hcz, cz0, -⟩ := hz.cellAt (i := 0) (by omega)
      obtain ⟨bz', oz', cz', ev, -, cz1, -⟩ := hz.cellAt (i := 31) (by omega)
      simp only [Value.slice.injEq, Option.some.injEq, Addr.mk.injEq, and_true, true_and] at ev
      obtain ⟨⟨rfl, rfl⟩, rfl⟩ := ev
      rw [k1] at cx0
      rw [k2] at cx1
      rw [k3] at cy0
      rw [k4] at cy1
      rw [k5] at cz0
      rw [k6] at cz1
      rw [kl] at hx hcx
      rw [kly] at hy hcy
      rw [klz] at hz hcz
      rw [kl, kly, klz]
      clear k1 k2 k3 k4 k5 k6 kl kly klz hx hy hz
      go_wp2_with fail
      refine (swap_any 1 _ _ [1, 0, 0, 0] [2, 0, 0, 0] (small4 1 (by decide)) (small4 2 (by decide)) rfl rfl _).mono ?_
      rintro e w9 ⟨rfl, b9⟩
      rw [if_pos rfl, if_pos rfl]
      have e2 := small4 2 (by decide)
      have e1 := small4 1 (by decide)
      go_wp2_with (refine wpList_alloc_row (k := .u64) rfl 26 rfl (nI z4) (alloc_el _) z4_el.ne (elMax z4_el) ?_)
      intro w10 r10 b10 s10
      rw [z4_el.len] at r10
      go_wp2_with (refine wpList_alloc_row (k := .u64) rfl 26 rfl (nI z4) (alloc_el _) z4_el.ne (elMax z4_el) ?_)
      intro w11 r11 b11 s11
      rw [z4_el.len] at r11
      have n9 : w9.heap.size < w10.heap.size := by have := s10.out; omega
      have z9 := b9.size
      replace r10 := r10.kept b11
      have bb := stepB (stepB b9 b10) b11
      clear b9 b10 b11 s10 s11
      go_wp2_with (refine wpList_store_row rfl 26 _ _ rfl (nI [2, 0, 0, 0]) rfl rfl r10 (by rw [z4_el.len, e2.len]) (elInfo z4_el) ?_)
      intro w12 r12 hw12
      replace r11 := r11.wrote hw12 (by omega)
      replace bb := hw12.below _ _ (by omega) bb
      clear r10 hw12
      go_wp2_with (refine wpList_store_row rfl 26 _ _ rfl (nI [1, 0, 0, 0]) rfl rfl r11 (by rw [z4_el.len, e1.len]) (elInfo z4_el) ?_)
      intro w13 r13 hw13
      replace r12 := r12.wrote hw13 (by omega)
      replace bb := hw13.below _ _ (by omega) bb
      clear r11 hw13
      have dx0 := cellK cx0 bb
      have dx1 := cellK cx1 bb
      have dy0 := cellK cy0 bb
      have dy1 := cellK cy1 bb
      have dz0 := cellK cz0 bb
      have dz1 := cellK cz1 bb
      rw [Nat.add_zero] at dx0 dy0 dz0
      replace hb := stepB hb bb
      clear cx0 cx1 cy0 cy1 cz0 cz1 bb z9
      go_wp2_with fail
      refine (fadd_any _ _ [5, 0, 0, 0] [6, 0, 0, 0] (small4 5 (by decide)) (small4 6 (by decide)) rfl rfl _).mono ?_
      rintro e w14 ⟨l14, rfl, h14, hv14, b14⟩
      rw [wv_small, wv_small] at hv14
      have q14 := awake_same l14 (5 + 6) 11 hv14 rfl
      have Q14 : Hid _ := q14
      replace r12 := r12.kept b14
      replace r13 := r13.kept b14
      replace hb := stepB hb b14
      clear hv14 q14 b14 dx0 dx1 dy0 dy1 dz0 dz1
      go_wp2_with fail
      refine (fsame_bool _ _ l14 [11, 0, 0, 0] true h14 (small4 11 (by decide)) Q14.out rfl rfl _).mono ?_
      rintro e w15 ⟨rfl, b15⟩
      replace r12 := r12.kept b15
      replace r13 := r13.kept b15
      replace hb := stepB hb b15
      clear b15 Q14 h14
      go_wp2_with fail
      refine (ftimes_any _ [5, 0, 0, 0] 7 _ (small4 5 (by decide)) (by decide) rfl rfl _).mono ?_
      rintro e w16 ⟨l16, rfl, h16, hv16, b16⟩
      rw [wv_small] at hv16
      have Q16 : Hid _ := awake_same l16 (7 * 5) 35 hv16 rfl
      replace r12 := r12.kept b16
      replace r13 := r13.kept b16
      replace hb := stepB hb b16
      clear hv16 b16
      go_wp2_with fail
      refine (fsame_bool _ _ l16 [35, 0, 0, 0] true h16 (small4 35 (by decide)) Q16.out rfl rfl _).mono ?_
      rintro e w17 ⟨rfl, b17⟩
      replace r12 := r12.kept b17
      replace r13 := r13.kept b17
      replace hb := stepB hb b17
      clear b17 Q16 h16
      go_wp2_with fail
      refine (fsquare_any _ [9, 0, 0, 0] (small4 9 (by decide)) rfl _).mono ?_
      rintro e w18 ⟨l18, rfl, h18, hv18, b18⟩
      rw [wv_small] at hv18
      have Q18 : Hid _ := awake_same l18 (9 * 9) 81 hv18 rfl
      replace r12 := r12.kept b18
      replace r13 := r13.kept b18
      replace hb := stepB hb b18
      clear hv18 b18
      go_wp2_with fail
      refine (fsame_bool _ _ l18 [81, 0, 0, 0] true h18 (small4 81 (by decide)) Q18.out rfl rfl _).mono ?_
      rintro e w19 ⟨rfl, b19⟩
      replace r12 := r12.kept b19
      replace r13 := r13.kept b19
      replace hb := stepB hb b19
      clear b19 Q18 h18
      go_wp2_with fail
      refine (fsame_bool _ _ [1, 0, 0, 0] [2, 0, 0, 0] false (small4 1 (by decide)) (small4 2 (by decide)) awake_not rfl rfl _).mono ?_
      rintro e w20 ⟨rfl, b20⟩
      replace r12 := r12.kept b20
      replace r13 := r13.kept b20
      replace hb := stepB hb b20
      have c12 : w20.cell? ⟨w9.heap.size, 0, none⟩ = some (.int .u64 2) := r12.cell (j := 0) (by simp [nI])
      have c13 : w20.cell? ⟨w10.heap.size, 0, none⟩ = some (.int .u64 1) := r13.cell (j := 0) (by simp [nI])
      clear b20 r12 r13
      go_wp2
      go_ret
      exact ⟨rfl, hb⟩
end Go.Proofs.Ytikkfmghjfddfab
