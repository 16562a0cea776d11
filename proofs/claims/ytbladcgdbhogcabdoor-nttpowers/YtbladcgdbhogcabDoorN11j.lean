/- What awake asks of package ntt holds. -/
import Derived.Test.YtbladcgdbhogcabDoorN11i
namespace Go.Proofs.YtbladcgdbhogcabDoor
open Go.ChangeShapes Go.WideShapes Go.ChangeAt Go.RowKit
set_option linter.unusedSimpArgs false
set_option linter.unusedVariables false

theorem eq_poA {f g : Nat → FZ} (h : ∀ k, k < 256 → f k = g k) (w : World) : (Op.equalIn 10000 24 (poV f) (poV g)).run Tryd.prog w = .ok true w := by
  have h1 := run_equal_row w (k := .i64) 9998 Tryd.underlying24 Tryd.underlying3 cellsInt11 (gI (fzF f)) (gI (fzF g)) (gI_length _) (gI_length _)
  rw [h1, fz_congr h]
  simp
/-- One number alone. -/
def unI (k : Nat) (i : Nat) : Int := if i = k then 1 else 0
theorem unI_po (k : Nat) : Po (unI k) := ⟨fun i => by unfold unI In64; split <;> omega⟩
theorem unI_rF (k : Nat) : rF (unI k) = unZ k 1 := by
  funext i
  unfold rF unI unZ
  by_cases h : i = k
  · rw [if_pos h, if_pos h]
    rfl
  · rw [if_neg h, if_neg h]
    rfl
theorem unI_set (k : Nat) : gI (fun i => if i = k then (1 : Int) else 0) = gI (unI k) := rfl
/-- A place of a row whose rest is known. -/
theorem cell_fz {e : TypeId} {g : Nat} {f : Nat → FZ} {w : World} (r : RowAt .i64 e g 256 (gI (fzF f)) w) (k : Nat) (hk : k < 256) (v : Int) (hv : (((f k).val : Nat) : Int) = v) : w.cell? ⟨g, k, none⟩ = some (.int .i64 v) := by
  have h := r.cell (j := k) (by rw [gI_length]; exact hk)
  rw [gI_get _ hk] at h
  unfold fzF at h
  rw [hv] at h
  exact h

set_option maxRecDepth 100000 in
set_option maxHeartbeats 4000000 in
theorem awake_any (w : World) (hT : PwT w) : Calls Tryd.prog 4 #[] w fun e w' => e = .returned (.bool true) ∧ Below w.heap.size w w' := by
  have HT : Hid (PwT w) := hT
  clear hT
  go_enter Tryd.func4, Tryd.ntmps4
  go_wp2_with (refine wpList_alloc_row (k := .i64) rfl 22 rfl (gI fun _ => 0) (alloc_po _) (gI_ne _) (poMax _) ?_)
  intro a0 r1 bn sn
  rw [gI_length] at r1
  have hbw := bn
  have m0 : w.heap.size < a0.heap.size := by have := sn.out; omega
  clear bn sn
  go_wp2_with (refine wpList_alloc_row (k := .i64) rfl 22 rfl (gI fun _ => 0) (alloc_po _) (gI_ne _) (poMax _) ?_)
  intro a1 rx bn sn
  rw [gI_length] at rx
  replace r1 := r1.kept bn
  replace hbw := stepB hbw bn
  have m1 : a0.heap.size < a1.heap.size := by have := sn.out; omega
  clear bn sn
  go_wp2_with (refine wpList_alloc_row (k := .i64) rfl 22 rfl (gI fun _ => 0) (alloc_po _) (gI_ne _) (poMax _) ?_)
  intro a2 ry bn sn
  rw [gI_length] at ry
  replace r1 := r1.kept bn
  replace rx := rx.kept bn
  replace hbw := stepB hbw bn
  have m2 : a1.heap.size < a2.heap.size := by have := sn.out; omega
  clear bn sn
  go_wp2_with (refine wpList_store_int rfl _ _ rfl rfl 1 rfl r1 (by rw [gI_length]; decide) ?_)
  intro c0 q0 hw
  rw [gI_set, unI_set] at q0
  replace rx := rx.wrote hw (by omega)
  replace ry := ry.wrote hw (by omega)
  clear r1
  have r1 := q0
  clear q0
  replace hbw := hw.below _ _ (by omega) hbw
  clear hw
  go_wp2_with (refine wpList_store_int rfl _ _ rfl rfl 1 rfl rx (by rw [gI_length]; decide) ?_)
  intro c1 q1 hw
  rw [gI_set, unI_set] at q1
  replace r1 := r1.wrote hw (by omega)
  replace ry := ry.wrote hw (by omega)
  clear rx
  have rx := q1
  clear q1
  replace hbw := hw.below _ _ (by omega) hbw
  clear hw
  go_wp2_with (refine wpList_store_int rfl _ _ rfl rfl 1 rfl ry (by rw [gI_length]; decide) ?_)
  intro c2 q2 hw
  rw [gI_set, unI_set] at q2
  replace r1 := r1.wrote hw (by omega)
  replace rx := rx.wrote hw (by omega)
  clear ry
  have ry := q2
  clear q2
  replace hbw := hw.below _ _ (by omega) hbw
  clear hw
  clear m0 m1 m2
  go_wp2_with (first | refine wpList_load_row rfl 22 _ rfl rfl rx _ Tryd.underlying22 rfl (poInfo _) ?_ | refine wpList_load_row rfl 22 _ rfl rfl ry _ Tryd.underlying22 rfl (poInfo _) ?_)
  refine (nproduct_any _ _ (unI 255) (unI 1) (unI_po 255) (unI_po 1) rfl rfl _ (HT.out.kept hbw)).mono ?_
  rintro e d0 ⟨rfl, bn⟩
  have hb0 := bn
  go_wp2_with (refine wpList_alloc_row (k := .i64) rfl 24 rfl (gI fun _ => 0) (alloc_poA _) (gI_ne _) (poMax _) ?_)
  intro e0 ro bo so
  rw [gI_length] at ro
  replace hb0 := stepB hb0 bo
  clear so bo
  go_wp2_with (refine wpList_store_row rfl 24 _ _ rfl (gI (fzF (pd (rF (unI 255)) (rF (unI 1))))) rfl rfl ro (by rw [gI_length, gI_length]) (poInfoA _) ?_)
  intro g0 rp hw
  replace hb0 := hw.below _ _ bn.size hb0
  replace r1 := r1.kept hb0
  replace rx := rx.kept hb0
  replace ry := ry.kept hb0
  replace hbw := stepB hbw hb0
  clear hb0 hw bn ro
  go_wp2_with (first | refine wpList_load_row rfl 22 _ rfl rfl r1 _ Tryd.underlying22 rfl (poInfo _) ?_)
  refine (nforward_any _ (unI 0) (unI_po 0) rfl _ (HT.out.kept hbw)).mono ?_
  rintro e d1 ⟨rfl, bn⟩
  have hb0 := bn
  go_wp2_with (refine wpList_alloc_row (k := .i64) rfl 24 rfl (gI fun _ => 0) (alloc_poA _) (gI_ne _) (poMax _) ?_)
  intro e1 ro bo so
  rw [gI_length] at ro
  replace hb0 := stepB hb0 bo
  clear so bo
  go_wp2_with (refine wpList_store_row rfl 24 _ _ rfl (gI (fzF (fwd (rF (unI 0))))) rfl rfl ro (by rw [gI_length, gI_length]) (poInfoA _) ?_)
  intro g1 rf hw
  replace hb0 := hw.below _ _ bn.size hb0
  replace r1 := r1.kept hb0
  replace rx := rx.kept hb0
  replace ry := ry.kept hb0
  replace rp := rp.kept hb0
  replace hbw := stepB hbw hb0
  clear hb0 hw bn ro
  go_wp2_with (first | refine wpList_load_row rfl 24 _ rfl rfl rf _ Tryd.underlying24 rfl (poInfoA _) ?_)
  refine (ninverse_any _ (fzF (fwd (rF (unI 0)))) (Po.fz _) rfl _ (HT.out.kept hbw)).mono ?_
  rintro e d2 ⟨rfl, bn⟩
  have hb0 := bn
  go_wp2_with (refine wpList_alloc_row (k := .i64) rfl 24 rfl (gI fun _ => 0) (alloc_poA _) (gI_ne _) (poMax _) ?_)
  intro e2 ro bo so
  rw [gI_length] at ro
  replace hb0 := stepB hb0 bo
  clear so bo
  go_wp2_with (refine wpList_store_row rfl 24 _ _ rfl (gI (fzF (inw (rF (fzF (fwd (rF (unI 0)))))))) rfl rfl ro (by rw [gI_length, gI_length]) (poInfoA _) ?_)
  intro g2 rg hw
  replace hb0 := hw.below _ _ bn.size hb0
  replace r1 := r1.kept hb0
  replace rx := rx.kept hb0
  replace ry := ry.kept hb0
  replace rp := rp.kept hb0
  replace rf := rf.kept hb0
  replace hbw := stepB hbw hb0
  clear hb0 hw bn ro
  go_wp2_with (first | refine wpList_load_row rfl 24 _ rfl rfl rf _ Tryd.underlying24 rfl (poInfoA _) ?_)
  refine (ntimes_any _ _ (fzF (fwd (rF (unI 0)))) (fzF (fwd (rF (unI 0)))) (Po.fz _) (Po.fz _) rfl rfl _ (HT.out.kept hbw)).mono ?_
  rintro e d3 ⟨rfl, bn⟩
  have hb0 := bn
  go_wp2_with (refine wpList_alloc_row (k := .i64) rfl 24 rfl (gI fun _ => 0) (alloc_poA _) (gI_ne _) (poMax _) ?_)
  intro e3 ro bo so
  rw [gI_length] at ro
  replace hb0 := stepB hb0 bo
  clear so bo
  go_wp2_with (refine wpList_store_row rfl 24 _ _ rfl (gI (fzF (tm (rF (fzF (fwd (rF (unI 0))))) (rF (fzF (fwd (rF (unI 0)))))))) rfl rfl ro (by rw [gI_length, gI_length]) (poInfoA _) ?_)
  intro g3 rh hw
  replace hb0 := hw.below _ _ bn.size hb0
  replace r1 := r1.kept hb0
  replace rx := rx.kept hb0
  replace ry := ry.kept hb0
  replace rp := rp.kept hb0
  replace rf := rf.kept hb0
  replace rg := rg.kept hb0
  replace hbw := stepB hbw hb0
  clear hb0 hw bn ro
  go_wp2_with (first | refine wpList_load_row rfl 22 _ rfl rfl r1 _ Tryd.underlying22 rfl (poInfo _) ?_)
  refine (nplus_any _ _ (unI 0) (unI 0) (unI_po 0) (unI_po 0) rfl rfl _).mono ?_
  rintro e d4 ⟨rfl, bn⟩
  have hb0 := bn
  go_wp2_with (refine wpList_alloc_row (k := .i64) rfl 24 rfl (gI fun _ => 0) (alloc_poA _) (gI_ne _) (poMax _) ?_)
  intro e4 ro bo so
  rw [gI_length] at ro
  replace hb0 := stepB hb0 bo
  clear so bo
  go_wp2_with (refine wpList_store_row rfl 24 _ _ rfl (gI (fzF (fun k => rF (unI 0) k + rF (unI 0) k))) rfl rfl ro (by rw [gI_length, gI_length]) (poInfoA _) ?_)
  intro g4 ri hw
  replace hb0 := hw.below _ _ bn.size hb0
  replace r1 := r1.kept hb0
  replace rx := rx.kept hb0
  replace ry := ry.kept hb0
  replace rp := rp.kept hb0
  replace rf := rf.kept hb0
  replace rg := rg.kept hb0
  replace rh := rh.kept hb0
  replace hbw := stepB hbw hb0
  clear hb0 hw bn ro
  go_wp2_with (first | refine wpList_load_row rfl 22 _ rfl rfl ry _ Tryd.underlying22 rfl (poInfo _) ?_ | refine wpList_load_row rfl 22 _ rfl rfl rx _ Tryd.underlying22 rfl (poInfo _) ?_)
  refine (nminus_any _ _ (unI 1) (unI 255) (unI_po 1) (unI_po 255) rfl rfl _).mono ?_
  rintro e d5 ⟨rfl, bn⟩
  have hb0 := bn
  go_wp2_with (refine wpList_alloc_row (k := .i64) rfl 24 rfl (gI fun _ => 0) (alloc_poA _) (gI_ne _) (poMax _) ?_)
  intro e5 ro bo so
  rw [gI_length] at ro
  replace hb0 := stepB hb0 bo
  clear so bo
  go_wp2_with (refine wpList_store_row rfl 24 _ _ rfl (gI (fzF (fun k => rF (unI 1) k - rF (unI 255) k))) rfl rfl ro (by rw [gI_length, gI_length]) (poInfoA _) ?_)
  intro g5 rj hw
  replace hb0 := hw.below _ _ bn.size hb0
  replace r1 := r1.kept hb0
  replace rx := rx.kept hb0
  replace ry := ry.kept hb0
  replace rp := rp.kept hb0
  replace rf := rf.kept hb0
  replace rg := rg.kept hb0
  replace rh := rh.kept hb0
  replace ri := ri.kept hb0
  replace hbw := stepB hbw hb0
  clear hb0 hw bn ro
  go_wp2_with (first | refine wpList_load_row rfl 24 _ rfl rfl rj _ Tryd.underlying24 rfl (poInfoA _) ?_)
  refine (ncleaned_any _ (fzF (fun k => rF (unI 1) k - rF (unI 255) k)) (Po.fz _) rfl _).mono ?_
  rintro e d6 ⟨rfl, bn⟩
  have hb0 := bn
  go_wp2_with (refine wpList_alloc_row (k := .i64) rfl 24 rfl (gI fun _ => 0) (alloc_poA _) (gI_ne _) (poMax _) ?_)
  intro e6 ro bo so
  rw [gI_length] at ro
  replace hb0 := stepB hb0 bo
  clear so bo
  go_wp2_with (refine wpList_store_row rfl 24 _ _ rfl (gI (fzF (rF (fzF (fun k => rF (unI 1) k - rF (unI 255) k))))) rfl rfl ro (by rw [gI_length, gI_length]) (poInfoA _) ?_)
  intro g6 rk hw
  replace hb0 := hw.below _ _ bn.size hb0
  replace r1 := r1.kept hb0
  replace rx := rx.kept hb0
  replace ry := ry.kept hb0
  replace rp := rp.kept hb0
  replace rf := rf.kept hb0
  replace rg := rg.kept hb0
  replace rh := rh.kept hb0
  replace ri := ri.kept hb0
  replace rj := rj.kept hb0
  replace hbw := stepB hbw hb0
  clear hb0 hw bn ro
  rw [unI_rF, unI_rF] at rp
  have k1 := cell_fz rp 0 (by decide) 3328 (by rw [pd_round.1]; rfl)
  have k2 := cell_fz rp 1 (by decide) 0 (by rw [pd_round.2]; rfl)
  rw [unI_rF] at rf
  have k3 := cell_fz rf 0 (by decide) 1 (by rw [fwd_unit]; rfl)
  have k4 := cell_fz rf 254 (by decide) 1 (by rw [fwd_unit]; rfl)
  have k5 := cell_fz rf 1 (by decide) 0 (by rw [fwd_unit]; rfl)
  rw [rF_fz, unI_rF] at rg
  have k6 := cell_fz rg 0 (by decide) 1 (by rw [inw_fwd _ _ (by decide)]; rfl)
  have k7 := cell_fz rg 2 (by decide) 0 (by rw [inw_fwd _ _ (by decide)]; rfl)
  rw [rF_fz, unI_rF] at rh
  have k8 := cell_fz rh 2 (by decide) 1 (by rw [tm_unit]; rfl)
  rw [unI_rF] at ri
  have k9 := cell_fz ri 0 (by decide) 2 (by rfl)
  rw [unI_rF, unI_rF] at rj
  have k10 := cell_fz rj 255 (by decide) 3328 (by rfl)
  rw [rF_fz, unI_rF, unI_rF] at rk
  have k11 := cell_fz rk 1 (by decide) 1 (by rfl)
  clear r1 rx ry rp rf rg rh ri rj rk
  go_wp2
  go_ret
  exact ⟨rfl, hbw⟩
end Go.Proofs.YtbladcgdbhogcabDoor
