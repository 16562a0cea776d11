/- What the statements of layer 6 ask first, nine times nine, is answered with yes. -/
import Derived.Test.YthokfcmnijpkhabV06g
namespace Go.Proofs.Ythokfcmnijpkhab
open Go.ChangeShapes Go.WideShapes Go.ChangeAt Go.RowKit
set_option linter.unusedSimpArgs false
set_option linter.unusedVariables false

theorem key9_set : (List.replicate 32 (0 : UInt8)).set 0 9 = key9 := by decide
theorem z32_length : (List.replicate 32 (0 : UInt8)).length = 32 := by decide
theorem z32_clamp : (clL (List.replicate 32 (0 : UInt8))).getD 31 0 = 64 := by decide +kernel
theorem z32_dec : decN (List.replicate 32 (0 : UInt8)) % pN = 0 := by decide +kernel
theorem noughts {k u : List UInt8} (h : scN k u = 0) : ∀ x ∈ enL (scN k u), x = 0 := by
  rw [h, enL_zero]
  intro x hx
  exact (List.mem_replicate.1 hx).2
theorem z32_shared : ∀ x ∈ enL (scN key9 (List.replicate 32 (0 : UInt8))), x = 0 := noughts (scN_zero key9_length z32_dec)

set_option maxRecDepth 100000 in
set_option maxHeartbeats 4000000 in
theorem awake_any (w : World) : Calls Try.prog 4 #[] w fun e w' => e = .returned (.bool true) ∧ Below w.heap.size w w' := by
  obtain ⟨ti, hti, hz0, hz1, hz2⟩ := info_parts info5
  go_enter Try.func4, Try.ntmps4
  go_wp2_with (at_make; go_must (refine wpList_make_full _ rfl _ _ 24 rfl w.heap.size 5 ti _ 1 Try.underlying24 hti hz0 hz1 _ _ _ _ 32 rfl rfl rfl rfl (by rw [hz2]; omega) (by unfold maxLen; omega) (Nat.le_refl _) ?_))
  intro w1 hown hgr
  have hN1 := New.made hown hgr
  clear hown hgr
  obtain ⟨g, c, ev, -, hcell, hfree, hset⟩ := hN1.store (j := 0) (by simp)
  simp only [Value.slice.injEq, Option.some.injEq, Addr.mk.injEq, and_true, true_and, List.length_replicate] at ev
  obtain ⟨rfl, rfl⟩ := ev
  have hN2 := hset 9
  rw [key9_set] at hN2
  have HN : Hid (New 5 w (.slice (some ⟨w.heap.size, 0, none⟩) 32 32) key9 (w1.setCell ⟨w.heap.size, 0, none⟩ (.int .u8 9))) := hN2
  clear hset hN2 hN1
  go_wp2_with fail
  have hk := HN.out.rd
  have hbw := HN.out.2
  refine (scalar_any _ _ key9 key9 _ hk hk key9_length key9_length).mono ?_
  rintro e w2 ⟨va, rfl, hNa⟩
  replace hk := hk.kept hNa.2
  replace hbw := stepB hbw hNa.2
  obtain ⟨kA0, kA31⟩ := nine_bytes
  have kAl := enL_length (scN key9 key9)
  have ha := hNa.rd
  clear hNa HN hcell hfree
  obtain ⟨A, hA⟩ : ∃ A : List UInt8, A = enL (scN key9 key9) := ⟨_, rfl⟩
  rw [← hA] at kA0 kA31 kAl ha
  have HA : Hid _ := hA
  clear hA
  go_wp2_with (at_make; go_must (refine wpList_make_full _ rfl _ _ 24 rfl w2.heap.size 5 ti _ 1 Try.underlying24 hti hz0 hz1 _ _ _ _ 32 rfl rfl rfl rfl (by rw [hz2]; omega) (by unfold maxLen; omega) (Nat.le_refl _) ?_))
  intro w3 hown hgr
  have hN3 := New.made hown hgr
  have hz := hN3.rd
  replace hk := hk.kept hN3.2
  replace ha := ha.kept hN3.2
  replace hbw := stepB hbw hN3.2
  clear hown hgr hN3
  go_wp2_with fail
  refine (clamp_any _ (List.replicate 32 0) z32_length _ hz).mono ?_
  rintro e w4 ⟨vb, rfl, hN4⟩
  have hB := hN4.rd
  have kB := z32_clamp
  have kBl := clL_length (List.replicate 32 0)
  rw [z32_length] at kBl
  replace hk := hk.kept hN4.2
  replace ha := ha.kept hN4.2
  replace hbw := stepB hbw hN4.2
  clear hN4 hz
  generalize clL (List.replicate 32 0) = B at hB kB kBl
  go_wp2_with fail
  refine (scalar_arg _ _ [] key9 _ (Rd.nil _) hk (by simp)).mono ?_
  rintro e w5 ⟨rfl, bn⟩
  replace hk := hk.kept bn
  replace ha := ha.kept bn
  replace hB := hB.kept bn
  replace hbw := stepB hbw bn
  clear bn
  go_wp2_with (at_make; go_must (refine wpList_make_full _ rfl _ _ 24 rfl w5.heap.size 5 ti _ 1 Try.underlying24 hti hz0 hz1 _ _ _ _ 32 rfl rfl rfl rfl (by rw [hz2]; omega) (by unfold maxLen; omega) (Nat.le_refl _) ?_))
  intro w6 hown hgr
  have hN6 := New.made hown hgr
  have hz := hN6.rd
  replace hk := hk.kept hN6.2
  replace ha := ha.kept hN6.2
  replace hB := hB.kept hN6.2
  replace hbw := stepB hbw hN6.2
  clear hown hgr hN6
  go_wp2_with fail
  refine (shared_zero _ _ key9 (List.replicate 32 0) _ hk hz key9_length z32_length z32_shared).mono ?_
  rintro e w7 ⟨rfl, bn⟩
  replace hk := hk.kept bn
  replace ha := ha.kept bn
  replace hB := hB.kept bn
  replace hbw := stepB hbw bn
  clear bn hz
  go_wp2_with fail
  refine (public_any _ key9 _ hk).mono ?_
  rintro e w8 ⟨hp, -⟩
  obtain ⟨vc, rfl, hN8⟩ := hp key9_length
  rw [← HA.out] at hN8
  replace ha := ha.kept hN8.2
  replace hB := hB.kept hN8.2
  replace hbw := stepB hbw hN8.2
  have hC := hN8.rd
  have hcvA := conv_any ha
  have hcvC := conv_any hC
  clear hN8 hk
  obtain ⟨bx, ox, cx, rfl, hcx, cx0, -⟩ := ha.cellAt (i := 0) (by omega)
  obtain ⟨bx', ox', cx', ev, -, cx1, -⟩ := ha.cellAt (i := 31) (by omega)
  simp only [Value.slice.injEq, Option.some.injEq, Addr.mk.injEq, and_true, true_and] at ev
  obtain ⟨⟨rfl, rfl⟩, rfl⟩ := ev
  obtain ⟨bY, oy, cy, rfl, hcy, cy1, -⟩ := hB.cellAt (i := 31) (by omega)
  rw [kA0] at cx0
  rw [kA31] at cx1
  rw [kB] at cy1
  rw [Nat.add_zero] at cx0
  rw [kAl] at hcvA hcx
  rw [kBl] at hcy
  rw [kAl, kBl]
  clear ha hB hC kA0 kA31 kB kAl kBl HA
  go_wp2
  go_ret
  exact ⟨rfl, hbw⟩
end Go.Proofs.Ythokfcmnijpkhab
