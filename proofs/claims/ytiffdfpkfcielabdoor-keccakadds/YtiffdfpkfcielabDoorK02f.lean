/- That the program is awake: what a few calls at noughts and small states answer. -/
import Derived.Test.YtiffdfpkfcielabDoorK02e
import Derived.Test.YtiffdfpkfcielabDoorKEval
namespace Go.Proofs.YtiffdfpkfcielabDoor
open Go.ChangeShapes Go.WideShapes Go.ChangeAt Go.RowKit
set_option linter.unusedSimpArgs false
set_option linter.unusedVariables false

theorem max25 {f : Nat → Nat} : (stL f).length ≤ maxLen := by rw [stL_length]; simp [maxLen]
/-- A function of several states on its way. -/
structure St (w0 : World) (L : List (Nat × (Nat → Nat))) (w : World) : Prop where
  rows : ∀ p ∈ L, RowAt .u64 23 p.1 25 (stL p.2) w
  b : Below w0.heap.size w0 w
  t : Tabs w
theorem St.kept {w0 w w' : World} {L : List (Nat × (Nat → Nat))} (h : St w0 L w) (hb : Below w.heap.size w w') : St w0 L w' := ⟨fun p hp => (h.rows p hp).kept hb, stepB h.b hb, h.t.kept hb⟩
theorem St.step {w0 w w' : World} {o : Obj} {L : List (Nat × (Nat → Nat))} {F : Nat → Nat} (h : St w0 L w) (hr : RowAt .u64 23 w.heap.size 25 (stL F) w') (hw : Wrote w.heap.size (w.alloc o) w') : St w0 ((w.heap.size, F) :: L) w' := by
  have h1 := h.kept (growB o)
  refine ⟨fun p hp => ?_, hw.below _ _ h.b.size h1.b, h1.t.wrote hw h.t.two⟩
  rcases List.mem_cons.1 hp with rfl | hp
  · exact hr
  · refine (h1.rows p hp).wrote hw ?_
    have := (h.rows p hp).lt
    omega
theorem St.fresh {w : World} {cs : Array Value} {F : Nat → Nat} (ht : Tabs w) (h : cs = ((stL F).map (Value.int .u64)).toArray) : St w [(w.heap.size, F)] (w.alloc (.cells cs 23)) := by
  refine ⟨fun p hp => ?_, growB _, ht.kept (growB _)⟩
  obtain rfl := List.mem_singleton.1 hp
  exact RowAt.fresh (stL F) h rfl (stL_length F).symm (stL_ne F) max25
theorem St.cell {w0 w : World} {L : List (Nat × (Nat → Nat))} (h : St w0 L w) (g : Nat) (F : Nat → Nat) (hp : (g, F) ∈ L) (j : Nat) (hj : j < 25) (v : Int) (hv : ((F j : Nat) : Int) = v) : w.cell? ⟨g, j, none⟩ = some (.int .u64 v) := by
  have := (h.rows (g, F) hp).cell (j := j) (by rw [stL_length]; exact hj)
  rw [stL_get _ _ hj] at this
  rw [this, ← hv]
def s2 (i : Nat) : Nat := if i = 2 then 5 else 0
def s3 (i : Nat) : Nat := if i = 1 then 1 else 0
def s4 (i : Nat) : Nat := if i = 6 then 1 else 0
def s5 (i : Nat) : Nat := if i = 0 then 1 else 0
theorem s2_lt (i : Nat) : s2 i < 18446744073709551616 := by unfold s2; split <;> decide
theorem s3_lt (i : Nat) : s3 i < 18446744073709551616 := by unfold s3; split <;> decide
theorem s4_lt (i : Nat) : s4 i < 18446744073709551616 := by unfold s4; split <;> decide
theorem s5_lt (i : Nat) : s5 i < 18446744073709551616 := by unfold s5; split <;> decide
theorem s2_eq : #[Value.int .u64 0, .int .u64 0, .int .u64 5, .int .u64 0, .int .u64 0, .int .u64 0, .int .u64 0, .int .u64 0, .int .u64 0, .int .u64 0, .int .u64 0, .int .u64 0, .int .u64 0, .int .u64 0, .int .u64 0, .int .u64 0, .int .u64 0, .int .u64 0, .int .u64 0, .int .u64 0, .int .u64 0, .int .u64 0, .int .u64 0, .int .u64 0, .int .u64 0] = ((stL s2).map (Value.int .u64)).toArray := rfl
theorem s3_eq : #[Value.int .u64 0, .int .u64 1, .int .u64 0, .int .u64 0, .int .u64 0, .int .u64 0, .int .u64 0, .int .u64 0, .int .u64 0, .int .u64 0, .int .u64 0, .int .u64 0, .int .u64 0, .int .u64 0, .int .u64 0, .int .u64 0, .int .u64 0, .int .u64 0, .int .u64 0, .int .u64 0, .int .u64 0, .int .u64 0, .int .u64 0, .int .u64 0, .int .u64 0] = ((stL s3).map (Value.int .u64)).toArray := rfl
theorem s4_eq : #[Value.int .u64 0, .int .u64 0, .int .u64 0, .int .u64 0, .int .u64 0, .int .u64 0, .int .u64 1, .int .u64 0, .int .u64 0, .int .u64 0, .int .u64 0, .int .u64 0, .int .u64 0, .int .u64 0, .int .u64 0, .int .u64 0, .int .u64 0, .int .u64 0, .int .u64 0, .int .u64 0, .int .u64 0, .int .u64 0, .int .u64 0, .int .u64 0, .int .u64 0] = ((stL s4).map (Value.int .u64)).toArray := rfl
theorem s5_eq : #[Value.int .u64 1, .int .u64 0, .int .u64 0, .int .u64 0, .int .u64 0, .int .u64 0, .int .u64 0, .int .u64 0, .int .u64 0, .int .u64 0, .int .u64 0, .int .u64 0, .int .u64 0, .int .u64 0, .int .u64 0, .int .u64 0, .int .u64 0, .int .u64 0, .int .u64 0, .int .u64 0, .int .u64 0, .int .u64 0, .int .u64 0, .int .u64 0, .int .u64 0] = ((stL s5).map (Value.int .u64)).toArray := rfl
theorem v0 : rdsL (fun _ => 0) 24 0 = 17376452488221285863 := by
  rw [rdsL_eq _ (fun _ => by decide) 24 (Nat.le_refl _) 0 (by decide), kz_all _ (by decide) 0 (by decide)]
  rfl
theorem v1 : ioI (fun _ => 0) 1 0 = 32898 := rfl
theorem v2 : chL s2 0 = 5 := rfl
theorem v3 : rhL s3 1 = 2 := by decide
theorem v4 : piF s4 1 = 1 := rfl
theorem v5 : thL s5 1 = 1 := by decide
theorem v6 : rdLI (fun _ => 0) 0 0 = 1 := by
  unfold rdLI
  rw [if_pos (by decide), rdL_noughts]
  rfl

set_option maxRecDepth 100000 in
set_option maxHeartbeats 2000000 in
theorem awake_any (w : World) (ht : Tabs w) : Calls Tryd.prog 7 #[] w fun e w' => e = .returned (.bool true) ∧ Below w.heap.size w w' := by
  go_enter Tryd.func7, Tryd.ntmps7
  have hS := St.fresh ht zeros25
  have rz := hS.rows (w.heap.size, fun _ => 0) (by simp)
  go_wp2_with (refine wpList_load_row rfl 23 _ rfl rfl rz _ Tryd.underlying23 rfl (arrInfo _) ?_)
  refine (kF_any _ (fun _ => 0) (fun _ => by decide) rfl _ hS.t).mono ?_
  rintro e w1a ⟨rfl, hB⟩
  have hS1 := hS.kept hB
  clear hS hB rz
  go_wp2_with (first | refine wpList_load_row rfl 23 _ rfl rfl rz _ Tryd.underlying23 rfl (arrInfo _) ?_ | (refine wpList_store_row rfl 23 _ _ rfl (stL (rdsL (fun _ => 0) 24)) rfl rfl (RowAt.fresh (e := 23) (w := w1a) _ zeros25 rfl (stL_length _).symm (stL_ne _) max25) (by simp [stL_length]) (arrInfo _) ?_; intro w1 r3 hw; have hS := hS1.step r3 hw; clear hS1 r3 hw; have rz := hS.rows (w.heap.size, fun _ => 0) (by simp)))
  refine (kIota_any _ (fun _ => 0) (fun _ => by decide) rfl _ _ hS.t).mono ?_
  rintro e w2a ⟨rfl, hB⟩
  have hS1 := hS.kept hB
  clear hS hB rz
  go_wp2_with (first | refine wpList_load_row rfl 23 _ rfl rfl rz _ Tryd.underlying23 rfl (arrInfo _) ?_ | (refine wpList_store_row rfl 23 _ _ rfl (stL (ioI (fun _ => 0) 1)) rfl rfl (RowAt.fresh (e := 23) (w := w2a) _ zeros25 rfl (stL_length _).symm (stL_ne _) max25) (by simp [stL_length]) (arrInfo _) ?_; intro w2 r3 hw; have hS := hS1.step r3 hw; clear hS1 r3 hw; have rz := hS.rows (w.heap.size, fun _ => 0) (by simp)))
  refine (kChi_any _ s2 s2_lt s2_eq _ hS.t).mono ?_
  rintro e w3a ⟨rfl, hB⟩
  have hS1 := hS.kept hB
  clear hS hB rz
  go_wp2_with (first | refine wpList_load_row rfl 23 _ rfl rfl rz _ Tryd.underlying23 rfl (arrInfo _) ?_ | (refine wpList_store_row rfl 23 _ _ rfl (stL (chL s2)) rfl rfl (RowAt.fresh (e := 23) (w := w3a) _ zeros25 rfl (stL_length _).symm (stL_ne _) max25) (by simp [stL_length]) (arrInfo _) ?_; intro w3 r3 hw; have hS := hS1.step r3 hw; clear hS1 r3 hw; have rz := hS.rows (w.heap.size, fun _ => 0) (by simp)))
  refine (kRho_any _ s3 s3_lt s3_eq _ hS.t).mono ?_
  rintro e w4a ⟨rfl, hB⟩
  have hS1 := hS.kept hB
  clear hS hB rz
  go_wp2_with (first | refine wpList_load_row rfl 23 _ rfl rfl rz _ Tryd.underlying23 rfl (arrInfo _) ?_ | (refine wpList_store_row rfl 23 _ _ rfl (stL (rhL s3)) rfl rfl (RowAt.fresh (e := 23) (w := w4a) _ zeros25 rfl (stL_length _).symm (stL_ne _) max25) (by simp [stL_length]) (arrInfo _) ?_; intro w4 r3 hw; have hS := hS1.step r3 hw; clear hS1 r3 hw; have rz := hS.rows (w.heap.size, fun _ => 0) (by simp)))
  refine (kPi_any _ s4 s4_lt s4_eq _ hS.t).mono ?_
  rintro e w5a ⟨rfl, hB⟩
  have hS1 := hS.kept hB
  clear hS hB rz
  go_wp2_with (first | refine wpList_load_row rfl 23 _ rfl rfl rz _ Tryd.underlying23 rfl (arrInfo _) ?_ | (refine wpList_store_row rfl 23 _ _ rfl (stL (piF s4)) rfl rfl (RowAt.fresh (e := 23) (w := w5a) _ zeros25 rfl (stL_length _).symm (stL_ne _) max25) (by simp [stL_length]) (arrInfo _) ?_; intro w5 r3 hw; have hS := hS1.step r3 hw; clear hS1 r3 hw; have rz := hS.rows (w.heap.size, fun _ => 0) (by simp)))
  refine (kTheta_any _ s5 s5_lt s5_eq _ hS.t).mono ?_
  rintro e w6a ⟨rfl, hB⟩
  have hS1 := hS.kept hB
  clear hS hB rz
  go_wp2_with (first | refine wpList_load_row rfl 23 _ rfl rfl rz _ Tryd.underlying23 rfl (arrInfo _) ?_ | (refine wpList_store_row rfl 23 _ _ rfl (stL (thL s5)) rfl rfl (RowAt.fresh (e := 23) (w := w6a) _ zeros25 rfl (stL_length _).symm (stL_ne _) max25) (by simp [stL_length]) (arrInfo _) ?_; intro w6 r3 hw; have hS := hS1.step r3 hw; clear hS1 r3 hw; have rz := hS.rows (w.heap.size, fun _ => 0) (by simp)))
  refine (kRound_any _ (fun _ => 0) (fun _ => by decide) rfl _ _ hS.t).mono ?_
  rintro e w7a ⟨rfl, hB⟩
  have hS1 := hS.kept hB
  clear hS hB rz
  go_wp2_with (first | refine wpList_load_row rfl 23 _ rfl rfl rz _ Tryd.underlying23 rfl (arrInfo _) ?_ | (refine wpList_store_row rfl 23 _ _ rfl (stL (rdLI (fun _ => 0) 0)) rfl rfl (RowAt.fresh (e := 23) (w := w7a) _ zeros25 rfl (stL_length _).symm (stL_ne _) max25) (by simp [stL_length]) (arrInfo _) ?_; intro w7 r3 hw; have hS := hS1.step r3 hw; clear hS1 r3 hw; have hb := hS.b; have c0 := hS.cell w1a.heap.size (rdsL (fun _ => 0) 24) (by simp) 0 (by decide) 17376452488221285863 (by rw [v0]; rfl); have c1 := hS.cell w2a.heap.size (ioI (fun _ => 0) 1) (by simp) 0 (by decide) 32898 (by rw [v1]; rfl); have c2 := hS.cell w3a.heap.size (chL s2) (by simp) 0 (by decide) 5 (by rw [v2]; rfl); have c3 := hS.cell w4a.heap.size (rhL s3) (by simp) 1 (by decide) 2 (by rw [v3]; rfl); have c4 := hS.cell w5a.heap.size (piF s4) (by simp) 1 (by decide) 1 (by rw [v4]; rfl); have c5 := hS.cell w6a.heap.size (thL s5) (by simp) 1 (by decide) 1 (by rw [v5]; rfl); have c6 := hS.cell w7a.heap.size (rdLI (fun _ => 0) 0) (by simp) 0 (by decide) 1 (by rw [v6]; rfl); clear hS))

  go_ret
  exact ⟨rfl, hb⟩
end Go.Proofs.YtiffdfpkfcielabDoor
