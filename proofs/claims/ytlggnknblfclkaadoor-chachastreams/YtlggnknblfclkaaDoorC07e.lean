/- That the program is awake: the standard's quarter round, and what the block of noughts begins with. -/
import Derived.Test.YtlggnknblfclkaaDoorC07d
import Derived.Test.YtlggnknblfclkaaDoorQMath2
import Derived.OpenShut
namespace Go.Proofs.YtlggnknblfclkaaDoor
open Go.ChangeShapes Go.WideShapes Go.ChangeAt Go.RowKit
set_option linter.unusedSimpArgs false
set_option linter.unusedVariables false

theorem nat_u32 {A : Int} (h : (Lit.int .u32 A).wf = true) : ∃ a : Nat, A = (a : Int) ∧ a < 4294967296 := by
  have := bounds_u32 h
  exact ⟨A.toNat, by omega, by omega⟩
theorem sm_nought : (smL (List.replicate 32 0) 0 (List.replicate 12 0) [0]).getD 0 0 = 118 := by
  rw [smL_get _ _ _ _ _ (by decide)]
  show (0 : UInt8) ^^^ (bkL (List.replicate 32 0) 0 (List.replicate 12 0)).getD 0 0 = 118
  rw [bk_nought]
  rfl

set_option maxRecDepth 100000 in
set_option maxHeartbeats 2000000 in
theorem awake_any (w : World) (ht : PlT w) : Calls Tryd.prog 8 #[] w fun e w' => e = .returned (.bool true) ∧ Below w.heap.size w w' := by
  obtain ⟨ti, hti, hz0, hz1, hz2⟩ := info_parts info5
  have HT : Hid (PlT w) := ht
  clear ht
  go_enter Tryd.func8, Tryd.ntmps8
  go_wp2_with fail
  refine (quarter_any ⟨286331153, 16909060, 2609737539, 19088743⟩ ⟨by decide, by decide, by decide, by decide⟩ _ _ _ _ rfl rfl rfl rfl _).mono ?_
  rintro e w ⟨rfl, rfl⟩
  rw [qr_told]
  go_wp2_with (at_make; go_must (refine wpList_make_full _ rfl _ _ 30 rfl w.heap.size 5 ti _ 1 Tryd.underlying30 hti hz0 hz1 _ _ _ _ 32 rfl rfl rfl rfl (by rw [hz2]; omega) (by unfold maxLen; omega) (Nat.le_refl _) ?_))
  intro w1 hown hgr
  have hN1 := New.made hown hgr
  have b1 := hN1.2
  have k1 := hN1.rd
  clear hown hgr hN1
  go_wp2_with (at_make; go_must (refine wpList_make_full _ rfl _ _ 30 rfl w1.heap.size 5 ti _ 1 Tryd.underlying30 hti hz0 hz1 _ _ _ _ 12 rfl rfl rfl rfl (by rw [hz2]; omega) (by unfold maxLen; omega) (Nat.le_refl _) ?_))
  intro w2 hown hgr
  have hN2 := New.made hown hgr
  have b2 := stepB b1 hN2.2
  have k2 := k1.kept hN2.2
  have n2 := hN2.rd
  clear hown hgr hN2 b1 k1
  have HK : Hid _ := k2
  have HN : Hid _ := n2
  have HB2 : Hid _ := b2
  clear k2 n2 b2
  go_wp2_with fail
  refine (block_any _ _ (List.replicate 32 0) (List.replicate 12 0) 0 _ rfl (by decide) _ (PlT.kept HT.out HB2.out) HK.out HN.out (by simp) (by simp)).mono ?_
  rintro e w3 ⟨vx, rfl, hN3⟩
  have hx3 := hN3.rd
  have b3 := stepB HB2.out hN3.2
  have HK3 : Hid _ := Rd.kept HK.out hN3.2
  have HN3 : Hid _ := Rd.kept HN.out hN3.2
  have g3 := growB (w := w3) (.cells #[.int .u8 0] 5)
  have r3 : Rd (w3.alloc (.cells #[.int .u8 0] 5)) (.slice (some ⟨w3.heap.size, 0, none⟩) 1 1) [0] := Rd.lit1 0 rfl
  have HK4 : Hid _ := Rd.kept HK3.out g3
  have HN4 : Hid _ := Rd.kept HN3.out g3
  have HB4 : Hid _ := stepB b3 g3
  have hx4 := hx3.kept g3
  have HX4 : Hid _ := hx4
  have HR3 : Hid _ := r3
  clear hN3 hx3 b3 HK3 HN3 g3 r3 hx4 HK HN HB2
  go_wp2_with fail
  refine (stream_any _ _ _ (List.replicate 32 0) (List.replicate 12 0) [0] 0 _ rfl (by decide) _ (PlT.kept HT.out HB4.out) HK4.out HN4.out HR3.out (by simp) (by simp) (by decide)).mono ?_
  rintro e w5 ⟨vy, rfl, hN5⟩
  have hy5 := hN5.rd
  have hx5 := Rd.kept HX4.out hN5.2
  have HB5 : Hid _ := stepB HB4.out hN5.2
  have HN5 : Hid _ := Rd.kept HN4.out hN5.2
  clear hN5 HK4 HN4 HB4 HX4 HR3
  have lx : (bkL (List.replicate 32 0) 0 (List.replicate 12 0)).length = 64 := bkL_length _ _ _
  have ly : (smL (List.replicate 32 0) 0 (List.replicate 12 0) [0]).length = 1 := smL_length _ _ _ _
  obtain ⟨bx, ox, cx, ev, hcx, hc0, -⟩ := hx5.cellAt (i := 0) (by omega)
  subst ev
  obtain ⟨by', oy, cy, ev, hcy, hd0, -⟩ := hy5.cellAt (i := 0) (by omega)
  subst ev
  rw [bk_nought, Nat.add_zero, show (((118 : UInt8).toNat : Nat) : Int) = 118 from rfl] at hc0
  rw [sm_nought, Nat.add_zero, show (((118 : UInt8).toNat : Nat) : Int) = 118 from rfl] at hd0
  rw [lx] at hcx ⊢
  rw [ly] at hcy ⊢
  clear hx5 hy5 lx ly
  go_wp2_with fail
  refine (block_arg _ _ [] (List.replicate 12 0) _ _ (Rd.nil _) HN5.out (by simp)).mono ?_
  rintro e w6 ⟨rfl, rfl⟩
  go_wp2
  go_ret
  exact ⟨rfl, HB5.out⟩
end Go.Proofs.YtlggnknblfclkaaDoor
