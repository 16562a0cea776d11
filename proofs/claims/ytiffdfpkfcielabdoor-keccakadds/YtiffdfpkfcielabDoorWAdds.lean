/- What the law KeccakAdds answers at every two states: the walk. -/
import Derived.Test.YtiffdfpkfcielabDoorK02f
import Derived.Test.YtiffdfpkfcielabDoorArr3
import Derived.Test.YtiffdfpkfcielabDoorReg
import Derived.Test.YtiffdfpkfcielabDoorRegE
namespace Go.Proofs.YtiffdfpkfcielabDoor
open Go.ChangeShapes Go.WideShapes Go.ChangeAt Go.RowKit
set_option linter.unusedSimpArgs false
set_option linter.unusedVariables false

theorem St.drew {w0 w : World} {L : List (Nat × (Nat → Nat))} (h : St w0 L w) : St w0 L w.drew := h.kept (Below.refl _ _).drew
theorem St.add {w0 w : World} {cs : Array Value} {L : List (Nat × (Nat → Nat))} {F : Nat → Nat} (h : St w0 L w) (hc : cs = ((stL F).map (Value.int .u64)).toArray) : St w0 ((w.heap.size, F) :: L) (w.alloc (.cells cs 23)) := by
  have h1 := h.kept (growB (.cells cs 23))
  refine ⟨fun p hp => ?_, h1.b, h1.t⟩
  rcases List.mem_cons.1 hp with rfl | hp
  · exact RowAt.fresh (stL F) hc rfl (stL_length F).symm (stL_ne F) max25
  · exact h1.rows p hp
theorem St.swap {w0 w : World} {L : List (Nat × (Nat → Nat))} {g : Nat} {F G : Nat → Nat} (h : St w0 ((g, F) :: L) w) (e : stL F = stL G) : St w0 ((g, G) :: L) w := by
  refine ⟨fun p hp => ?_, h.b, h.t⟩
  rcases List.mem_cons.1 hp with rfl | hp
  · have := h.rows (g, F) (by simp)
    dsimp only at this ⊢
    rw [← e]
    exact this
  · exact h.rows p (by simp [hp])
theorem St.set {w0 w : World} {L : List (Nat × (Nat → Nat))} {g : Nat} {F G : Nat → Nat} (h : St w0 ((g, F) :: L) w) (j : Nat) (x : Int) (e : (stL F).set j x = stL G) (hg : w0.heap.size ≤ g) (h1 : 1 < g) (hne : ∀ p ∈ L, p.1 ≠ g) :
    St w0 ((g, G) :: L) (w.setCell ⟨g, j, none⟩ (.int .u64 x)) := by
  have hw := Wrote.set g j w (.int .u64 x)
  refine ⟨fun p hp => ?_, hw.below _ _ hg h.b, h.t.wrote hw h1⟩
  rcases List.mem_cons.1 hp with rfl | hp
  · have := (h.rows (g, F) (by simp)).set j x
    rw [e] at this
    exact this
  · exact (h.rows p (by simp [hp])).wrote hw (hne p hp)

set_option maxRecDepth 100000 in
set_option maxHeartbeats 4000000 in
theorem keccakAdds_walk (f g : Nat → Nat) (hf : ∀ i, f i < 18446744073709551616) (hg : ∀ i, g i < 18446744073709551616) (w : World) (ht : Tabs w) :
    Calls Tryd.prog 4 #[.agg ((stL f).map (Value.int .u64)).toArray, .agg ((stL g).map (Value.int .u64)).toArray] w fun e w' => e = .returned (.bool true) ∧ Below w.heap.size w w' := by
  have HF : Hid (∀ i, f i < 18446744073709551616) := hf
  have HG : Hid (∀ i, g i < 18446744073709551616) := hg
  obtain ⟨bq, HQ2⟩ : ∃ bq : Bool, Hid (decide (stL f = stL g) = bq) := ⟨_, rfl⟩
  have HQ1 : Hid (decide (stL (rdsL f 24) = stL (rdsL g 24)) = bq) := by
    have h1 := HQ2.out
    show decide _ = bq
    rw [← h1]
    exact decide_eq_decide.2 (same_just f g hf hg)
  clear hf hg
  have hS := (St.fresh ht (F := f) rfl).add (cs := ((stL g).map (Value.int .u64)).toArray) rfl
  have h1 := ht.two
  go_enter Tryd.func4, Tryd.ntmps4
  go_wp2_with fail
  clear ht
  have hz : ((w.alloc (.cells ((stL f).map (Value.int .u64)).toArray 23)).alloc (.cells ((stL g).map (Value.int .u64)).toArray 23)).heap.size = w.heap.size + 2 := by simp
  have hz1 : (w.alloc (.cells ((stL f).map (Value.int .u64)).toArray 23)).heap.size = w.heap.size + 1 := by simp
  rw [hz1] at hS
  generalize (w.alloc (.cells ((stL f).map (Value.int .u64)).toArray 23)).alloc (.cells ((stL g).map (Value.int .u64)).toArray 23) = W at hS hz
  refine (awake_any _ hS.t).mono ?_
  rintro e wA ⟨rfl, hB⟩
  have hS1 := (hS.kept hB).add (F := fun _ => 0) zeros25
  have hzA : w.heap.size + 2 ≤ wA.heap.size := by have := hB.size; omega
  have hS2 := hS1.swap (upQ_zero (fun _ => 0) (addS f g))
  clear hS hB hS1 hz hz1
  go_wp2
  generalize wA.alloc (.cells #[Value.int .u64 0, .int .u64 0, .int .u64 0, .int .u64 0, .int .u64 0, .int .u64 0, .int .u64 0, .int .u64 0, .int .u64 0, .int .u64 0, .int .u64 0, .int .u64 0, .int .u64 0, .int .u64 0, .int .u64 0, .int .u64 0, .int .u64 0, .int .u64 0, .int .u64 0, .int .u64 0, .int .u64 0, .int .u64 0, .int .u64 0, .int .u64 0, .int .u64 0] 23) = W1 at hS2
  go_loopw [7] (fun i wr => ∃ j : Nat, j ≤ 25 ∧ i = .int .i64 j ∧ St w [(wA.heap.size, upQ (fun _ => 0) (addS f g) j), (w.heap.size + 1, g), (w.heap.size, f)] wr) (fun i _ => 25 - (intOf i).toNat)
  case atStart => exact ⟨0, by omega, rfl, hS2⟩
  case round =>
    obtain ⟨j, hj, rfl, hS⟩ := hrel
    clear hS2
    by_cases hlt : j < 25
    · have hd : decide ((j : Int) < 25) = true := decide_eq_true (by omega)
      have hjI : (j : Int) < 25 := by omega
      have ca := hS.cell w.heap.size f (by simp) j hlt _ rfl
      have cb := hS.cell (w.heap.size + 1) g (by simp) j hlt _ rfl
      have hcc := (hS.rows (wA.heap.size, upQ (fun _ => 0) (addS f g) j) (by simp)).cell (j := j) (by rw [stL_length]; exact hlt)
      have hcf := (hS.rows (wA.heap.size, upQ (fun _ => 0) (addS f g) j) (by simp)).free j
      dsimp only at hcc hcf
      have HX : Hid _ := xorI (f j) (g j) (HF.out j) (HG.out j)
      have HS : Hid (∀ x : Int, x = ((f j ^^^ g j : Nat) : Int) → St w [(wA.heap.size, upQ (fun _ => 0) (addS f g) (j + 1)), (w.heap.size + 1, g), (w.heap.size, f)] (wr.setCell ⟨wA.heap.size, j, none⟩ (.int .u64 x))) := by
        intro x hx
        refine hS.set j x ?_ (by omega) (by omega) ?_
        · rw [hx]
          exact upQ_set _ (addS f g) j
        · intro p hp
          rcases List.mem_cons.1 hp with rfl | hp
          · show w.heap.size + 1 ≠ _; omega
          · obtain rfl := List.mem_singleton.1 hp
            show w.heap.size ≠ _; omega
      generalize f j = q0 at ca HX HS
      generalize g j = q1 at cb HX HS
      generalize (stL (upQ (fun _ => 0) (addS f g) j)).getD j 0 = q2 at hcc
      clear hS
      go_wp2_with fail
      refine wpE_begin 9 (by kernel_rfl) ?_
      refine wpE_take (i := 0) (oi := { dst := some 25, op := Op.move (Operand.tmp 7), type := 3, pos := "law.go:72", after := #[], guard := none }) (v := ?_) rfl (by decide) (by kernel_rfl) (by kernel_rfl) (by kernel_rfl) (by kernel_rfl) (by rfl) ?_ ?_
      rotate_left
      · intro W hW; first | (go_simp; done) | (go_simp; with_reducible rfl)
      try simp only [Act.put, List.setIfInBounds_toArray, List.set_cons_zero, List.set_cons_succ]
      refine wpE_take (i := 1) (oi := { dst := some 26, op := Op.move (Operand.tmp 7), type := 3, pos := "law.go:72", after := #[], guard := none }) (v := ?_) rfl (by decide) (by kernel_rfl) (by kernel_rfl) (by kernel_rfl) (by kernel_rfl) (by rfl) ?_ ?_
      rotate_left
      · intro W hW; first | (go_simp; done) | (go_simp; with_reducible rfl)
      try simp only [Act.put, List.setIfInBounds_toArray, List.set_cons_zero, List.set_cons_succ]
      refine wpE_take (i := 2) (oi := { dst := some 27, op := Op.indexAddr 23 (Operand.tmp 2) (Operand.tmp 26), type := 0, pos := "law.go:72", after := #[{ on := 1, ground := Ground.data }], guard := none }) (v := ?_) rfl (by decide) (by kernel_rfl) (by kernel_rfl) (by kernel_rfl) (by kernel_rfl) (by rfl) ?_ ?_
      rotate_left
      · intro W hW; first | (go_simp; done) | (go_simp; with_reducible rfl)
      try simp only [Act.put, List.setIfInBounds_toArray, List.set_cons_zero, List.set_cons_succ]
      refine wpE_take (i := 3) (oi := { dst := some 28, op := Op.load 22 (Operand.tmp 27), type := 22, pos := "law.go:72", after := #[{ on := 2, ground := Ground.data }], guard := none }) (v := ?_) rfl (by decide) (by kernel_rfl) (by kernel_rfl) (by kernel_rfl) (by kernel_rfl) (by rfl) ?_ ?_
      rotate_left
      · intro W hW; have hcW := cellU ca hW; first | (go_simp; done) | (go_simp; with_reducible rfl)
      try simp only [Act.put, List.setIfInBounds_toArray, List.set_cons_zero, List.set_cons_succ]
      refine wpE_take (i := 4) (oi := { dst := some 29, op := Op.move (Operand.tmp 7), type := 3, pos := "law.go:72", after := #[], guard := none }) (v := ?_) rfl (by decide) (by kernel_rfl) (by kernel_rfl) (by kernel_rfl) (by kernel_rfl) (by rfl) ?_ ?_
      rotate_left
      · intro W hW; first | (go_simp; done) | (go_simp; with_reducible rfl)
      try simp only [Act.put, List.setIfInBounds_toArray, List.set_cons_zero, List.set_cons_succ]
      refine wpE_take (i := 5) (oi := { dst := some 30, op := Op.indexAddr 23 (Operand.tmp 3) (Operand.tmp 29), type := 0, pos := "law.go:72", after := #[{ on := 4, ground := Ground.data }], guard := none }) (v := ?_) rfl (by decide) (by kernel_rfl) (by kernel_rfl) (by kernel_rfl) (by kernel_rfl) (by rfl) ?_ ?_
      rotate_left
      · intro W hW; first | (go_simp; done) | (go_simp; with_reducible rfl)
      try simp only [Act.put, List.setIfInBounds_toArray, List.set_cons_zero, List.set_cons_succ]
      refine wpE_take (i := 6) (oi := { dst := some 31, op := Op.load 22 (Operand.tmp 30), type := 22, pos := "law.go:72", after := #[{ on := 5, ground := Ground.data }], guard := none }) (v := ?_) rfl (by decide) (by kernel_rfl) (by kernel_rfl) (by kernel_rfl) (by kernel_rfl) (by rfl) ?_ ?_
      rotate_left
      · intro W hW; have hcW := cellU cb hW; first | (go_simp; done) | (go_simp; with_reducible rfl)
      try simp only [Act.put, List.setIfInBounds_toArray, List.set_cons_zero, List.set_cons_succ]
      refine wpE_take (i := 7) (oi := { dst := some 32, op := Op.binOp BinOp.xor 22 (Operand.tmp 28) (Operand.tmp 31) 22, type := 22, pos := "law.go:72", after := #[{ on := 3, ground := Ground.data }, { on := 6, ground := Ground.data }], guard := none }) (v := ?_) rfl (by decide) (by kernel_rfl) (by kernel_rfl) (by kernel_rfl) (by kernel_rfl) (by rfl) ?_ ?_
      rotate_left
      · intro W hW; first | (go_simp; done) | (go_simp; with_reducible rfl)
      try simp only [Act.put, List.setIfInBounds_toArray, List.set_cons_zero, List.set_cons_succ]
      refine wpE_take (i := 8) (oi := { dst := some 33, op := Op.indexAddr 23 (Operand.tmp 6) (Operand.tmp 25), type := 0, pos := "law.go:72", after := #[{ on := 0, ground := Ground.data }, { on := 0, ground := Ground.phase }, { on := 1, ground := Ground.phase }, { on := 2, ground := Ground.phase }, { on := 3, ground := Ground.phase }, { on := 4, ground := Ground.phase }, { on := 5, ground := Ground.phase }, { on := 6, ground := Ground.phase }, { on := 7, ground := Ground.phase }], guard := none }) (v := ?_) rfl (by decide) (by kernel_rfl) (by kernel_rfl) (by kernel_rfl) (by kernel_rfl) (by rfl) ?_ ?_
      rotate_left
      · intro W hW; first | (go_simp; done) | (go_simp; with_reducible rfl)
      try simp only [Act.put, List.setIfInBounds_toArray, List.set_cons_zero, List.set_cons_succ]
      refine wpE_last (o := { dst := none, op := Op.store 22 (Operand.tmp 33) (Operand.tmp 32), type := 0, pos := "law.go:72", after := #[{ on := 8, ground := Ground.data }, { on := 7, ground := Ground.data }, { on := 0, ground := Ground.phase }, { on := 1, ground := Ground.phase }, { on := 2, ground := Ground.phase }, { on := 3, ground := Ground.phase }, { on := 4, ground := Ground.phase }, { on := 5, ground := Ground.phase }, { on := 6, ground := Ground.phase }, { on := 7, ground := Ground.phase }], guard := none }) (by kernel_rfl) (by kernel_rfl) rfl (by rfl) fun K hK => ?_
      go_simp
      refine hK.out _ _ ?_
      clear hK K
      try simp only [Act.put, List.setIfInBounds_toArray, List.set_cons_zero, List.set_cons_succ]

      have hS3 := (HS.out _ HX.out).drew
      go_wp2
      go_roundw
      case rel => exact ⟨j + 1, by omega, by go_num, hS3⟩
      case measure => simp [intOf]; omega
    · have hje : j = 25 := by omega
      rw [hje] at hS
      have hd : decide ((j : Int) < 25) = false := decide_eq_false (by omega)
      have hjI : (25 : Int) ≤ j := by omega
      replace hS := hS.swap (upQ_done (fun _ => 0) (addS f g))
      clear hje hlt hj
      have rz := hS.rows (w.heap.size, f) (by simp)
      go_wp2_with (refine wpList_load_row rfl 23 _ rfl rfl rz _ Tryd.underlying23 rfl (arrInfo _) ?_)
      refine (kTheta_any _ f HF.out rfl _ hS.t).mono ?_
      rintro e y0 ⟨rfl, hB⟩
      have hS1 := hS.kept hB
      clear hS hB rz
      go_wp2_with (first | refine wpList_load_row rfl 23 _ rfl rfl rz _ Tryd.underlying23 rfl (arrInfo _) ?_ | (refine wpList_store_row rfl 23 _ _ rfl (stL (thL f)) rfl rfl (RowAt.fresh (e := 23) (w := y0) _ zeros25 rfl (stL_length _).symm (stL_ne _) max25) (by simp [stL_length]) (arrInfo _) ?_; intro z0 r3 hw; have hS := hS1.step r3 hw; clear hS1 r3 hw; have rz := hS.rows ((w.heap.size + 1), g) (by simp)))
      refine (kTheta_any _ g HG.out rfl _ hS.t).mono ?_
      rintro e y1 ⟨rfl, hB⟩
      have hS1 := hS.kept hB
      clear hS hB rz
      go_wp2_with (first | refine wpList_load_row rfl 23 _ rfl rfl rz _ Tryd.underlying23 rfl (arrInfo _) ?_ | (refine wpList_store_row rfl 23 _ _ rfl (stL (thL g)) rfl rfl (RowAt.fresh (e := 23) (w := y1) _ zeros25 rfl (stL_length _).symm (stL_ne _) max25) (by simp [stL_length]) (arrInfo _) ?_; intro z1 r3 hw; have hS := hS1.step r3 hw; clear hS1 r3 hw; have rz := hS.rows (wA.heap.size, (addS f g)) (by simp)))
      refine (kTheta_any _ (addS f g) (addS_lt f g HF.out HG.out) rfl _ hS.t).mono ?_
      rintro e y2 ⟨rfl, hB⟩
      have hS1 := hS.kept hB
      clear hS hB rz
      go_wp2_with (first | refine wpList_load_row rfl 23 _ rfl rfl rz _ Tryd.underlying23 rfl (arrInfo _) ?_ | (refine wpList_store_row rfl 23 _ _ rfl (stL (thL (addS f g))) rfl rfl (RowAt.fresh (e := 23) (w := y2) _ zeros25 rfl (stL_length _).symm (stL_ne _) max25) (by simp [stL_length]) (arrInfo _) ?_; intro z2 r3 hw; have hS := hS1.step r3 hw; clear hS1 r3 hw; have rz := hS.rows (w.heap.size, f) (by simp)))
      refine (kRho_any _ f HF.out rfl _ hS.t).mono ?_
      rintro e y3 ⟨rfl, hB⟩
      have hS1 := hS.kept hB
      clear hS hB rz
      go_wp2_with (first | refine wpList_load_row rfl 23 _ rfl rfl rz _ Tryd.underlying23 rfl (arrInfo _) ?_ | (refine wpList_store_row rfl 23 _ _ rfl (stL (rhL f)) rfl rfl (RowAt.fresh (e := 23) (w := y3) _ zeros25 rfl (stL_length _).symm (stL_ne _) max25) (by simp [stL_length]) (arrInfo _) ?_; intro z3 r3 hw; have hS := hS1.step r3 hw; clear hS1 r3 hw; have rz := hS.rows ((w.heap.size + 1), g) (by simp)))
      refine (kRho_any _ g HG.out rfl _ hS.t).mono ?_
      rintro e y4 ⟨rfl, hB⟩
      have hS1 := hS.kept hB
      clear hS hB rz
      go_wp2_with (first | refine wpList_load_row rfl 23 _ rfl rfl rz _ Tryd.underlying23 rfl (arrInfo _) ?_ | (refine wpList_store_row rfl 23 _ _ rfl (stL (rhL g)) rfl rfl (RowAt.fresh (e := 23) (w := y4) _ zeros25 rfl (stL_length _).symm (stL_ne _) max25) (by simp [stL_length]) (arrInfo _) ?_; intro z4 r3 hw; have hS := hS1.step r3 hw; clear hS1 r3 hw; have rz := hS.rows (wA.heap.size, (addS f g)) (by simp)))
      refine (kRho_any _ (addS f g) (addS_lt f g HF.out HG.out) rfl _ hS.t).mono ?_
      rintro e y5 ⟨rfl, hB⟩
      have hS1 := hS.kept hB
      clear hS hB rz
      go_wp2_with (first | refine wpList_load_row rfl 23 _ rfl rfl rz _ Tryd.underlying23 rfl (arrInfo _) ?_ | (refine wpList_store_row rfl 23 _ _ rfl (stL (rhL (addS f g))) rfl rfl (RowAt.fresh (e := 23) (w := y5) _ zeros25 rfl (stL_length _).symm (stL_ne _) max25) (by simp [stL_length]) (arrInfo _) ?_; intro z5 r3 hw; have hS := hS1.step r3 hw; clear hS1 r3 hw; have rz := hS.rows (w.heap.size, f) (by simp)))
      refine (kPi_any _ f HF.out rfl _ hS.t).mono ?_
      rintro e y6 ⟨rfl, hB⟩
      have hS1 := hS.kept hB
      clear hS hB rz
      go_wp2_with (first | refine wpList_load_row rfl 23 _ rfl rfl rz _ Tryd.underlying23 rfl (arrInfo _) ?_ | (refine wpList_store_row rfl 23 _ _ rfl (stL (piF f)) rfl rfl (RowAt.fresh (e := 23) (w := y6) _ zeros25 rfl (stL_length _).symm (stL_ne _) max25) (by simp [stL_length]) (arrInfo _) ?_; intro z6 r3 hw; have hS := hS1.step r3 hw; clear hS1 r3 hw; have rz := hS.rows ((w.heap.size + 1), g) (by simp)))
      refine (kPi_any _ g HG.out rfl _ hS.t).mono ?_
      rintro e y7 ⟨rfl, hB⟩
      have hS1 := hS.kept hB
      clear hS hB rz
      go_wp2_with (first | refine wpList_load_row rfl 23 _ rfl rfl rz _ Tryd.underlying23 rfl (arrInfo _) ?_ | (refine wpList_store_row rfl 23 _ _ rfl (stL (piF g)) rfl rfl (RowAt.fresh (e := 23) (w := y7) _ zeros25 rfl (stL_length _).symm (stL_ne _) max25) (by simp [stL_length]) (arrInfo _) ?_; intro z7 r3 hw; have hS := hS1.step r3 hw; clear hS1 r3 hw; have rz := hS.rows (wA.heap.size, (addS f g)) (by simp)))
      refine (kPi_any _ (addS f g) (addS_lt f g HF.out HG.out) rfl _ hS.t).mono ?_
      rintro e y8 ⟨rfl, hB⟩
      have hS1 := hS.kept hB
      clear hS hB rz
      go_wp2_with (first | refine wpList_load_row rfl 23 _ rfl rfl rz _ Tryd.underlying23 rfl (arrInfo _) ?_ | (refine wpList_store_row rfl 23 _ _ rfl (stL (piF (addS f g))) rfl rfl (RowAt.fresh (e := 23) (w := y8) _ zeros25 rfl (stL_length _).symm (stL_ne _) max25) (by simp [stL_length]) (arrInfo _) ?_; intro z8 r3 hw; have hS := hS1.step r3 hw; clear hS1 r3 hw))

      go_loopw [17] (fun i wr => ∃ j : Nat, j ≤ 25 ∧ i = .int .i64 j ∧ St w [(y8.heap.size, piF (addS f g)), (y7.heap.size, piF g), (y6.heap.size, piF f), (y5.heap.size, rhL (addS f g)), (y4.heap.size, rhL g), (y3.heap.size, rhL f), (y2.heap.size, thL (addS f g)), (y1.heap.size, thL g), (y0.heap.size, thL f), (wA.heap.size, addS f g), (w.heap.size + 1, g), (w.heap.size, f)] wr) (fun i _ => 25 - (intOf i).toNat)
      case atStart => exact ⟨0, by omega, rfl, hS⟩
      case round =>
        clear hS
        obtain ⟨n, hn, rfl, hS⟩ := hrel
        by_cases hlt : n < 25
        · have hd2 : decide ((n : Int) < 25) = true := decide_eq_true (by omega)
          have hnI : (n : Int) < 25 := by omega
          have c0 := hS.cell y0.heap.size (thL f) (by simp) n hlt _ rfl
          have c1 := hS.cell y1.heap.size (thL g) (by simp) n hlt _ rfl
          have c2 := hS.cell y2.heap.size (thL (addS f g)) (by simp) n hlt _ rfl
          have c3 := hS.cell y3.heap.size (rhL f) (by simp) n hlt _ rfl
          have c4 := hS.cell y4.heap.size (rhL g) (by simp) n hlt _ rfl
          have c5 := hS.cell y5.heap.size (rhL (addS f g)) (by simp) n hlt _ rfl
          have c6 := hS.cell y6.heap.size (piF f) (by simp) n hlt _ rfl
          have c7 := hS.cell y7.heap.size (piF g) (by simp) n hlt _ rfl
          have c8 := hS.cell y8.heap.size (piF (addS f g)) (by simp) n hlt _ rfl
          have x0 := xorI (thL f n) (thL g n) (thL_lt f HF.out n) (thL_lt g HG.out n)
          rw [← (thL_add f g HF.out HG.out n)] at x0
          have x1 := xorI (rhL f n) (rhL g n) (rhL_lt f HF.out n) (rhL_lt g HG.out n)
          rw [← (rhL_add f g HF.out HG.out n)] at x1
          have x2 := xorI (piF f n) (piF g n) (piF_lt f HF.out n) (piF_lt g HG.out n)
          rw [← (piF_add f g n)] at x2
          generalize thL f n = q0 at c0 x0
          generalize thL g n = q1 at c1 x0
          generalize thL (addS f g) n = q2 at c2 x0
          generalize rhL f n = q3 at c3 x1
          generalize rhL g n = q4 at c4 x1
          generalize rhL (addS f g) n = q5 at c5 x1
          generalize piF f n = q6 at c6 x2
          generalize piF g n = q7 at c7 x2
          generalize piF (addS f g) n = q8 at c8 x2

          have HS : Hid _ := hS
          clear hS
          go_wp2_with fail
          refine wpG_begin (by kernel_rfl) ?_
          refine wpG_take (i := 0) (oi := { dst := some 56, op := Op.move (Operand.tmp 17), type := 3, pos := "law.go:84", after := #[], guard := none }) (v := ?_) rfl (by kernel_rfl) (by kernel_rfl) (by kernel_rfl) (by rfl) ?_ ?_
          rotate_left
          · intro W hW; first | (go_simp; done) | (go_simp; with_reducible rfl)
          try simp only [Act.put, List.setIfInBounds_toArray, List.set_cons_zero, List.set_cons_succ]
          refine wpG_take (i := 1) (oi := { dst := some 57, op := Op.indexAddr 23 (Operand.tmp 8) (Operand.tmp 56), type := 0, pos := "law.go:84", after := #[{ on := 0, ground := Ground.data }], guard := none }) (v := ?_) rfl (by kernel_rfl) (by kernel_rfl) (by kernel_rfl) (by rfl) ?_ ?_
          rotate_left
          · intro W hW; first | (go_simp; done) | (go_simp; with_reducible rfl)
          try simp only [Act.put, List.setIfInBounds_toArray, List.set_cons_zero, List.set_cons_succ]
          refine wpG_take (i := 2) (oi := { dst := some 58, op := Op.load 22 (Operand.tmp 57), type := 22, pos := "law.go:84", after := #[{ on := 1, ground := Ground.data }], guard := none }) (v := ?_) rfl (by kernel_rfl) (by kernel_rfl) (by kernel_rfl) (by rfl) ?_ ?_
          rotate_left
          · intro W hW; have hcW := cellU c0 hW; first | (go_simp; done) | (go_simp; with_reducible rfl)
          try simp only [Act.put, List.setIfInBounds_toArray, List.set_cons_zero, List.set_cons_succ]
          refine wpG_take (i := 3) (oi := { dst := some 59, op := Op.move (Operand.tmp 17), type := 3, pos := "law.go:84", after := #[], guard := none }) (v := ?_) rfl (by kernel_rfl) (by kernel_rfl) (by kernel_rfl) (by rfl) ?_ ?_
          rotate_left
          · intro W hW; first | (go_simp; done) | (go_simp; with_reducible rfl)
          try simp only [Act.put, List.setIfInBounds_toArray, List.set_cons_zero, List.set_cons_succ]
          refine wpG_take (i := 4) (oi := { dst := some 60, op := Op.indexAddr 23 (Operand.tmp 9) (Operand.tmp 59), type := 0, pos := "law.go:84", after := #[{ on := 3, ground := Ground.data }], guard := none }) (v := ?_) rfl (by kernel_rfl) (by kernel_rfl) (by kernel_rfl) (by rfl) ?_ ?_
          rotate_left
          · intro W hW; first | (go_simp; done) | (go_simp; with_reducible rfl)
          try simp only [Act.put, List.setIfInBounds_toArray, List.set_cons_zero, List.set_cons_succ]
          refine wpG_take (i := 5) (oi := { dst := some 61, op := Op.load 22 (Operand.tmp 60), type := 22, pos := "law.go:84", after := #[{ on := 4, ground := Ground.data }], guard := none }) (v := ?_) rfl (by kernel_rfl) (by kernel_rfl) (by kernel_rfl) (by rfl) ?_ ?_
          rotate_left
          · intro W hW; have hcW := cellU c1 hW; first | (go_simp; done) | (go_simp; with_reducible rfl)
          try simp only [Act.put, List.setIfInBounds_toArray, List.set_cons_zero, List.set_cons_succ]
          refine wpG_take (i := 6) (oi := { dst := some 62, op := Op.binOp BinOp.xor 22 (Operand.tmp 58) (Operand.tmp 61) 22, type := 22, pos := "law.go:84", after := #[{ on := 2, ground := Ground.data }, { on := 5, ground := Ground.data }], guard := none }) (v := ?_) rfl (by kernel_rfl) (by kernel_rfl) (by kernel_rfl) (by rfl) ?_ ?_
          rotate_left
          · intro W hW; first | (go_simp; done) | (go_simp; with_reducible rfl)
          try simp only [Act.put, List.setIfInBounds_toArray, List.set_cons_zero, List.set_cons_succ]
          refine wpG_take (i := 7) (oi := { dst := some 63, op := Op.move (Operand.tmp 17), type := 3, pos := "law.go:84", after := #[], guard := none }) (v := ?_) rfl (by kernel_rfl) (by kernel_rfl) (by kernel_rfl) (by rfl) ?_ ?_
          rotate_left
          · intro W hW; first | (go_simp; done) | (go_simp; with_reducible rfl)
          try simp only [Act.put, List.setIfInBounds_toArray, List.set_cons_zero, List.set_cons_succ]
          refine wpG_take (i := 8) (oi := { dst := some 64, op := Op.indexAddr 23 (Operand.tmp 10) (Operand.tmp 63), type := 0, pos := "law.go:84", after := #[{ on := 7, ground := Ground.data }], guard := none }) (v := ?_) rfl (by kernel_rfl) (by kernel_rfl) (by kernel_rfl) (by rfl) ?_ ?_
          rotate_left
          · intro W hW; first | (go_simp; done) | (go_simp; with_reducible rfl)
          try simp only [Act.put, List.setIfInBounds_toArray, List.set_cons_zero, List.set_cons_succ]
          refine wpG_take (i := 9) (oi := { dst := some 65, op := Op.load 22 (Operand.tmp 64), type := 22, pos := "law.go:84", after := #[{ on := 8, ground := Ground.data }], guard := none }) (v := ?_) rfl (by kernel_rfl) (by kernel_rfl) (by kernel_rfl) (by rfl) ?_ ?_
          rotate_left
          · intro W hW; have hcW := cellU c2 hW; first | (go_simp; done) | (go_simp; with_reducible rfl)
          try simp only [Act.put, List.setIfInBounds_toArray, List.set_cons_zero, List.set_cons_succ]
          refine wpG_take (i := 10) (oi := { dst := some 66, op := Op.binOp BinOp.neq 22 (Operand.tmp 62) (Operand.tmp 65) 22, type := 4, pos := "law.go:84", after := #[{ on := 6, ground := Ground.data }, { on := 9, ground := Ground.data }], guard := none }) (v := ?_) rfl (by kernel_rfl) (by kernel_rfl) (by kernel_rfl) (by rfl) ?_ ?_
          rotate_left
          · intro W hW; first | (go_simp; done) | (go_simp; with_reducible rfl)
          try simp only [Act.put, List.setIfInBounds_toArray, List.set_cons_zero, List.set_cons_succ]
          refine wpG_take (i := 11) (oi := { dst := some 67, op := Op.move (Operand.tmp 66), type := 4, pos := "law.go:84", after := #[{ on := 10, ground := Ground.data }], guard := none }) (v := ?_) rfl (by kernel_rfl) (by kernel_rfl) (by kernel_rfl) (by rfl) ?_ ?_
          rotate_left
          · intro W hW; first | (go_simp; done) | (go_simp; with_reducible rfl)
          try simp only [Act.put, List.setIfInBounds_toArray, List.set_cons_zero, List.set_cons_succ]
          refine wpG_take (i := 12) (oi := { dst := some 68, op := Op.move (Operand.tmp 17), type := 3, pos := "law.go:84", after := #[{ on := 11, ground := Ground.guard }], guard := some (11, false) }) (v := ?_) rfl (by kernel_rfl) (by kernel_rfl) (by kernel_rfl) (by rfl) ?_ ?_
          rotate_left
          · intro W hW; first | (go_simp; done) | (go_simp; with_reducible rfl)
          try simp only [Act.put, List.setIfInBounds_toArray, List.set_cons_zero, List.set_cons_succ]
          refine wpG_take (i := 13) (oi := { dst := some 69, op := Op.indexAddr 23 (Operand.tmp 11) (Operand.tmp 68), type := 0, pos := "law.go:84", after := #[{ on := 12, ground := Ground.data }, { on := 11, ground := Ground.guard }], guard := some (11, false) }) (v := ?_) rfl (by kernel_rfl) (by kernel_rfl) (by kernel_rfl) (by rfl) ?_ ?_
          rotate_left
          · intro W hW; first | (go_simp; done) | (go_simp; with_reducible rfl)
          try simp only [Act.put, List.setIfInBounds_toArray, List.set_cons_zero, List.set_cons_succ]
          refine wpG_take (i := 14) (oi := { dst := some 70, op := Op.load 22 (Operand.tmp 69), type := 22, pos := "law.go:84", after := #[{ on := 13, ground := Ground.data }, { on := 11, ground := Ground.guard }], guard := some (11, false) }) (v := ?_) rfl (by kernel_rfl) (by kernel_rfl) (by kernel_rfl) (by rfl) ?_ ?_
          rotate_left
          · intro W hW; have hcW := cellU c3 hW; first | (go_simp; done) | (go_simp; with_reducible rfl)
          try simp only [Act.put, List.setIfInBounds_toArray, List.set_cons_zero, List.set_cons_succ]
          refine wpG_take (i := 15) (oi := { dst := some 71, op := Op.move (Operand.tmp 17), type := 3, pos := "law.go:84", after := #[{ on := 11, ground := Ground.guard }], guard := some (11, false) }) (v := ?_) rfl (by kernel_rfl) (by kernel_rfl) (by kernel_rfl) (by rfl) ?_ ?_
          rotate_left
          · intro W hW; first | (go_simp; done) | (go_simp; with_reducible rfl)
          try simp only [Act.put, List.setIfInBounds_toArray, List.set_cons_zero, List.set_cons_succ]
          refine wpG_take (i := 16) (oi := { dst := some 72, op := Op.indexAddr 23 (Operand.tmp 12) (Operand.tmp 71), type := 0, pos := "law.go:84", after := #[{ on := 15, ground := Ground.data }, { on := 11, ground := Ground.guard }], guard := some (11, false) }) (v := ?_) rfl (by kernel_rfl) (by kernel_rfl) (by kernel_rfl) (by rfl) ?_ ?_
          rotate_left
          · intro W hW; first | (go_simp; done) | (go_simp; with_reducible rfl)
          try simp only [Act.put, List.setIfInBounds_toArray, List.set_cons_zero, List.set_cons_succ]
          refine wpG_take (i := 17) (oi := { dst := some 73, op := Op.load 22 (Operand.tmp 72), type := 22, pos := "law.go:84", after := #[{ on := 16, ground := Ground.data }, { on := 11, ground := Ground.guard }], guard := some (11, false) }) (v := ?_) rfl (by kernel_rfl) (by kernel_rfl) (by kernel_rfl) (by rfl) ?_ ?_
          rotate_left
          · intro W hW; have hcW := cellU c4 hW; first | (go_simp; done) | (go_simp; with_reducible rfl)
          try simp only [Act.put, List.setIfInBounds_toArray, List.set_cons_zero, List.set_cons_succ]
          refine wpG_take (i := 18) (oi := { dst := some 74, op := Op.binOp BinOp.xor 22 (Operand.tmp 70) (Operand.tmp 73) 22, type := 22, pos := "law.go:84", after := #[{ on := 14, ground := Ground.data }, { on := 17, ground := Ground.data }, { on := 11, ground := Ground.guard }], guard := some (11, false) }) (v := ?_) rfl (by kernel_rfl) (by kernel_rfl) (by kernel_rfl) (by rfl) ?_ ?_
          rotate_left
          · intro W hW; first | (go_simp; done) | (go_simp; with_reducible rfl)
          try simp only [Act.put, List.setIfInBounds_toArray, List.set_cons_zero, List.set_cons_succ]
          refine wpG_take (i := 19) (oi := { dst := some 75, op := Op.move (Operand.tmp 17), type := 3, pos := "law.go:84", after := #[{ on := 11, ground := Ground.guard }], guard := some (11, false) }) (v := ?_) rfl (by kernel_rfl) (by kernel_rfl) (by kernel_rfl) (by rfl) ?_ ?_
          rotate_left
          · intro W hW; first | (go_simp; done) | (go_simp; with_reducible rfl)
          try simp only [Act.put, List.setIfInBounds_toArray, List.set_cons_zero, List.set_cons_succ]
          refine wpG_take (i := 20) (oi := { dst := some 76, op := Op.indexAddr 23 (Operand.tmp 13) (Operand.tmp 75), type := 0, pos := "law.go:84", after := #[{ on := 19, ground := Ground.data }, { on := 11, ground := Ground.guard }], guard := some (11, false) }) (v := ?_) rfl (by kernel_rfl) (by kernel_rfl) (by kernel_rfl) (by rfl) ?_ ?_
          rotate_left
          · intro W hW; first | (go_simp; done) | (go_simp; with_reducible rfl)
          try simp only [Act.put, List.setIfInBounds_toArray, List.set_cons_zero, List.set_cons_succ]
          refine wpG_take (i := 21) (oi := { dst := some 77, op := Op.load 22 (Operand.tmp 76), type := 22, pos := "law.go:84", after := #[{ on := 20, ground := Ground.data }, { on := 11, ground := Ground.guard }], guard := some (11, false) }) (v := ?_) rfl (by kernel_rfl) (by kernel_rfl) (by kernel_rfl) (by rfl) ?_ ?_
          rotate_left
          · intro W hW; have hcW := cellU c5 hW; first | (go_simp; done) | (go_simp; with_reducible rfl)
          try simp only [Act.put, List.setIfInBounds_toArray, List.set_cons_zero, List.set_cons_succ]
          refine wpG_take (i := 22) (oi := { dst := some 78, op := Op.binOp BinOp.neq 22 (Operand.tmp 74) (Operand.tmp 77) 22, type := 4, pos := "law.go:84", after := #[{ on := 18, ground := Ground.data }, { on := 21, ground := Ground.data }, { on := 11, ground := Ground.guard }], guard := some (11, false) }) (v := ?_) rfl (by kernel_rfl) (by kernel_rfl) (by kernel_rfl) (by rfl) ?_ ?_
          rotate_left
          · intro W hW; first | (go_simp; done) | (go_simp; with_reducible rfl)
          try simp only [Act.put, List.setIfInBounds_toArray, List.set_cons_zero, List.set_cons_succ]
          refine wpG_take (i := 23) (oi := { dst := some 79, op := Op.pick (Operand.tmp 67) (Operand.const (Value.bool true)) (Operand.tmp 78), type := 4, pos := "law.go:84", after := #[{ on := 11, ground := Ground.data }, { on := 22, ground := Ground.data }], guard := none }) (v := ?_) rfl (by kernel_rfl) (by kernel_rfl) (by kernel_rfl) (by rfl) ?_ ?_
          rotate_left
          · intro W hW; first | (go_simp; done) | (go_simp; with_reducible rfl)
          try simp only [Act.put, List.setIfInBounds_toArray, List.set_cons_zero, List.set_cons_succ]
          refine wpG_take (i := 24) (oi := { dst := some 80, op := Op.move (Operand.tmp 79), type := 4, pos := "law.go:84", after := #[{ on := 23, ground := Ground.data }, { on := 11, ground := Ground.chain }], guard := none }) (v := ?_) rfl (by kernel_rfl) (by kernel_rfl) (by kernel_rfl) (by rfl) ?_ ?_
          rotate_left
          · intro W hW; first | (go_simp; done) | (go_simp; with_reducible rfl)
          try simp only [Act.put, List.setIfInBounds_toArray, List.set_cons_zero, List.set_cons_succ]
          refine wpG_take (i := 25) (oi := { dst := some 81, op := Op.move (Operand.tmp 17), type := 3, pos := "law.go:84", after := #[{ on := 24, ground := Ground.guard }], guard := some (24, false) }) (v := ?_) rfl (by kernel_rfl) (by kernel_rfl) (by kernel_rfl) (by rfl) ?_ ?_
          rotate_left
          · intro W hW; first | (go_simp; done) | (go_simp; with_reducible rfl)
          try simp only [Act.put, List.setIfInBounds_toArray, List.set_cons_zero, List.set_cons_succ]
          refine wpG_take (i := 26) (oi := { dst := some 82, op := Op.indexAddr 23 (Operand.tmp 14) (Operand.tmp 81), type := 0, pos := "law.go:84", after := #[{ on := 25, ground := Ground.data }, { on := 24, ground := Ground.guard }], guard := some (24, false) }) (v := ?_) rfl (by kernel_rfl) (by kernel_rfl) (by kernel_rfl) (by rfl) ?_ ?_
          rotate_left
          · intro W hW; first | (go_simp; done) | (go_simp; with_reducible rfl)
          try simp only [Act.put, List.setIfInBounds_toArray, List.set_cons_zero, List.set_cons_succ]
          refine wpG_take (i := 27) (oi := { dst := some 83, op := Op.load 22 (Operand.tmp 82), type := 22, pos := "law.go:84", after := #[{ on := 26, ground := Ground.data }, { on := 24, ground := Ground.guard }], guard := some (24, false) }) (v := ?_) rfl (by kernel_rfl) (by kernel_rfl) (by kernel_rfl) (by rfl) ?_ ?_
          rotate_left
          · intro W hW; have hcW := cellU c6 hW; first | (go_simp; done) | (go_simp; with_reducible rfl)
          try simp only [Act.put, List.setIfInBounds_toArray, List.set_cons_zero, List.set_cons_succ]
          refine wpG_take (i := 28) (oi := { dst := some 84, op := Op.move (Operand.tmp 17), type := 3, pos := "law.go:84", after := #[{ on := 24, ground := Ground.guard }], guard := some (24, false) }) (v := ?_) rfl (by kernel_rfl) (by kernel_rfl) (by kernel_rfl) (by rfl) ?_ ?_
          rotate_left
          · intro W hW; first | (go_simp; done) | (go_simp; with_reducible rfl)
          try simp only [Act.put, List.setIfInBounds_toArray, List.set_cons_zero, List.set_cons_succ]
          refine wpG_take (i := 29) (oi := { dst := some 85, op := Op.indexAddr 23 (Operand.tmp 15) (Operand.tmp 84), type := 0, pos := "law.go:84", after := #[{ on := 28, ground := Ground.data }, { on := 24, ground := Ground.guard }], guard := some (24, false) }) (v := ?_) rfl (by kernel_rfl) (by kernel_rfl) (by kernel_rfl) (by rfl) ?_ ?_
          rotate_left
          · intro W hW; first | (go_simp; done) | (go_simp; with_reducible rfl)
          try simp only [Act.put, List.setIfInBounds_toArray, List.set_cons_zero, List.set_cons_succ]
          refine wpG_take (i := 30) (oi := { dst := some 86, op := Op.load 22 (Operand.tmp 85), type := 22, pos := "law.go:84", after := #[{ on := 29, ground := Ground.data }, { on := 24, ground := Ground.guard }], guard := some (24, false) }) (v := ?_) rfl (by kernel_rfl) (by kernel_rfl) (by kernel_rfl) (by rfl) ?_ ?_
          rotate_left
          · intro W hW; have hcW := cellU c7 hW; first | (go_simp; done) | (go_simp; with_reducible rfl)
          try simp only [Act.put, List.setIfInBounds_toArray, List.set_cons_zero, List.set_cons_succ]
          refine wpG_take (i := 31) (oi := { dst := some 87, op := Op.binOp BinOp.xor 22 (Operand.tmp 83) (Operand.tmp 86) 22, type := 22, pos := "law.go:84", after := #[{ on := 27, ground := Ground.data }, { on := 30, ground := Ground.data }, { on := 24, ground := Ground.guard }], guard := some (24, false) }) (v := ?_) rfl (by kernel_rfl) (by kernel_rfl) (by kernel_rfl) (by rfl) ?_ ?_
          rotate_left
          · intro W hW; first | (go_simp; done) | (go_simp; with_reducible rfl)
          try simp only [Act.put, List.setIfInBounds_toArray, List.set_cons_zero, List.set_cons_succ]
          refine wpG_take (i := 32) (oi := { dst := some 88, op := Op.move (Operand.tmp 17), type := 3, pos := "law.go:84", after := #[{ on := 24, ground := Ground.guard }], guard := some (24, false) }) (v := ?_) rfl (by kernel_rfl) (by kernel_rfl) (by kernel_rfl) (by rfl) ?_ ?_
          rotate_left
          · intro W hW; first | (go_simp; done) | (go_simp; with_reducible rfl)
          try simp only [Act.put, List.setIfInBounds_toArray, List.set_cons_zero, List.set_cons_succ]
          refine wpG_take (i := 33) (oi := { dst := some 89, op := Op.indexAddr 23 (Operand.tmp 16) (Operand.tmp 88), type := 0, pos := "law.go:84", after := #[{ on := 32, ground := Ground.data }, { on := 24, ground := Ground.guard }], guard := some (24, false) }) (v := ?_) rfl (by kernel_rfl) (by kernel_rfl) (by kernel_rfl) (by rfl) ?_ ?_
          rotate_left
          · intro W hW; first | (go_simp; done) | (go_simp; with_reducible rfl)
          try simp only [Act.put, List.setIfInBounds_toArray, List.set_cons_zero, List.set_cons_succ]
          refine wpG_take (i := 34) (oi := { dst := some 90, op := Op.load 22 (Operand.tmp 89), type := 22, pos := "law.go:84", after := #[{ on := 33, ground := Ground.data }, { on := 24, ground := Ground.guard }], guard := some (24, false) }) (v := ?_) rfl (by kernel_rfl) (by kernel_rfl) (by kernel_rfl) (by rfl) ?_ ?_
          rotate_left
          · intro W hW; have hcW := cellU c8 hW; first | (go_simp; done) | (go_simp; with_reducible rfl)
          try simp only [Act.put, List.setIfInBounds_toArray, List.set_cons_zero, List.set_cons_succ]
          refine wpG_take (i := 35) (oi := { dst := some 91, op := Op.binOp BinOp.neq 22 (Operand.tmp 87) (Operand.tmp 90) 22, type := 4, pos := "law.go:84", after := #[{ on := 31, ground := Ground.data }, { on := 34, ground := Ground.data }, { on := 24, ground := Ground.guard }], guard := some (24, false) }) (v := ?_) rfl (by kernel_rfl) (by kernel_rfl) (by kernel_rfl) (by rfl) ?_ ?_
          rotate_left
          · intro W hW; first | (go_simp; done) | (go_simp; with_reducible rfl)
          try simp only [Act.put, List.setIfInBounds_toArray, List.set_cons_zero, List.set_cons_succ]
          refine wpG_take (i := 36) (oi := { dst := some 92, op := Op.pick (Operand.tmp 80) (Operand.const (Value.bool true)) (Operand.tmp 91), type := 4, pos := "law.go:84", after := #[{ on := 24, ground := Ground.data }, { on := 35, ground := Ground.data }], guard := none }) (v := ?_) rfl (by kernel_rfl) (by kernel_rfl) (by kernel_rfl) (by rfl) ?_ ?_
          rotate_left
          · intro W hW; first | (go_simp; done) | (go_simp; with_reducible rfl)
          try simp only [Act.put, List.setIfInBounds_toArray, List.set_cons_zero, List.set_cons_succ]
          refine wpG_done (by kernel_rfl) ?_

          have hS3 := HS.out.drew
          go_wp2
          go_roundw
          case rel => exact ⟨n + 1, by omega, by go_num, hS3⟩
          case measure => simp [intOf]; omega
        · have hne : n = 25 := by omega
          have hd2 : decide ((n : Int) < 25) = false := decide_eq_false (by omega)
          have hnI : (25 : Int) ≤ n := by omega
          clear hne hlt hn
          have hS3 := hS.drew
          have ra1 := hS3.rows (w.heap.size, f) (by simp)
          have rb1 := hS3.rows (w.heap.size + 1, g) (by simp)
          dsimp only at ra1 rb1
          have t1 := hS3.t
          have hb1 := hS3.b
          clear hS hS3
          go_wp2_with fail
          refine wpG_begin (by kernel_rfl) ?_
          refine wpG_take (i := 0) (oi := { dst := some 93, op := Op.load 23 (Operand.tmp 2), type := 23, pos := "law.go:88", after := #[], guard := none }) (v := ?_) rfl (by kernel_rfl) (by kernel_rfl) (by kernel_rfl) (by rfl) ?_ ?_
          rotate_left
          · intro W hW; refine Eq.trans (exec_load_row' 23 _ (by rfl) (by rfl) ra1 hW _ Tryd.underlying23 rfl (arrInfo _)) ?_; with_reducible rfl
          try simp only [Act.put, List.setIfInBounds_toArray, List.set_cons_zero, List.set_cons_succ]
          refine wpG_take (i := 2) (oi := { dst := some 95, op := Op.load 23 (Operand.tmp 3), type := 23, pos := "law.go:88", after := #[], guard := none }) (v := ?_) rfl (by kernel_rfl) (by kernel_rfl) (by kernel_rfl) (by rfl) ?_ ?_
          rotate_left
          · intro W hW; refine Eq.trans (exec_load_row' 23 _ (by rfl) (by rfl) rb1 hW _ Tryd.underlying23 rfl (arrInfo _)) ?_; with_reducible rfl
          try simp only [Act.put, List.setIfInBounds_toArray, List.set_cons_zero, List.set_cons_succ]
          refine wpG_take (i := 5) (oi := { dst := some 98, op := Op.load 23 (Operand.tmp 2), type := 23, pos := "law.go:88", after := #[], guard := none }) (v := ?_) rfl (by kernel_rfl) (by kernel_rfl) (by kernel_rfl) (by rfl) ?_ ?_
          rotate_left
          · intro W hW; refine Eq.trans (exec_load_row' 23 _ (by rfl) (by rfl) ra1 hW _ Tryd.underlying23 rfl (arrInfo _)) ?_; with_reducible rfl
          try simp only [Act.put, List.setIfInBounds_toArray, List.set_cons_zero, List.set_cons_succ]
          refine wpG_take (i := 6) (oi := { dst := some 99, op := Op.load 23 (Operand.tmp 3), type := 23, pos := "law.go:88", after := #[], guard := none }) (v := ?_) rfl (by kernel_rfl) (by kernel_rfl) (by kernel_rfl) (by rfl) ?_ ?_
          rotate_left
          · intro W hW; refine Eq.trans (exec_load_row' 23 _ (by rfl) (by rfl) rb1 hW _ Tryd.underlying23 rfl (arrInfo _)) ?_; with_reducible rfl
          try simp only [Act.put, List.setIfInBounds_toArray, List.set_cons_zero, List.set_cons_succ]
          refine wpG_take (i := 7) (oi := { dst := some 100, op := Op.binOp BinOp.eql 23 (Operand.tmp 98) (Operand.tmp 99) 23, type := 4, pos := "law.go:88", after := #[{ on := 5, ground := Ground.data }, { on := 6, ground := Ground.data }], guard := none }) (v := ?_) rfl (by kernel_rfl) (by kernel_rfl) (by kernel_rfl) (by rfl) ?_ ?_
          rotate_left
          · intro W hW; have hq := eq_states f g _ _ rfl rfl W; rw [HQ2.out] at hq; first | (go_simp; done) | (go_simp; with_reducible rfl)
          try simp only [Act.put, List.setIfInBounds_toArray, List.set_cons_zero, List.set_cons_succ]
          refine wpG_do (i := 1) (o := { dst := some 94, op := Op.call { callee := Callee.value (Operand.func 9), args := #[Operand.tmp 93], argTypes := #[23] }, type := 23, pos := "law.go:88", after := #[{ on := 0, ground := Ground.data }], guard := none }) (by kernel_rfl) rfl (by rfl) fun K hK => ?_
          go_simp
          refine (kF_any _ f HF.out rfl _ t1).mono ?_
          rintro e x2 ⟨rfl, hB2⟩
          refine hK.out _ _ hB2 ?_
          clear hK K
          have ra2 := ra1.kept hB2
          have rb2 := rb1.kept hB2
          have t2 := t1.kept hB2
          have hb2 := stepB hb1 hB2
          clear hB2 ra1 rb1 t1 hb1
          try simp only [Act.put, List.setIfInBounds_toArray, List.set_cons_zero, List.set_cons_succ]
          refine wpG_do (i := 3) (o := { dst := some 96, op := Op.call { callee := Callee.value (Operand.func 9), args := #[Operand.tmp 95], argTypes := #[23] }, type := 23, pos := "law.go:88", after := #[{ on := 2, ground := Ground.data }, { on := 1, ground := Ground.chain }], guard := none }) (by kernel_rfl) rfl (by rfl) fun K hK => ?_
          go_simp
          refine (kF_any _ g HG.out rfl _ t2).mono ?_
          rintro e x3 ⟨rfl, hB3⟩
          refine hK.out _ _ hB3 ?_
          clear hK K
          have ra3 := ra2.kept hB3
          have rb3 := rb2.kept hB3
          have t3 := t2.kept hB3
          have hb3 := stepB hb2 hB3
          clear hB3 ra2 rb2 t2 hb2
          try simp only [Act.put, List.setIfInBounds_toArray, List.set_cons_zero, List.set_cons_succ]
          refine wpG_take (i := 4) (oi := { dst := some 97, op := Op.binOp BinOp.eql 23 (Operand.tmp 94) (Operand.tmp 96) 23, type := 4, pos := "law.go:88", after := #[{ on := 1, ground := Ground.data }, { on := 3, ground := Ground.data }], guard := none }) (v := ?_) rfl (by kernel_rfl) (by kernel_rfl) (by kernel_rfl) (by rfl) ?_ ?_
          rotate_left
          · intro W hW; have hq := eq_states (rdsL f 24) (rdsL g 24) _ _ rfl rfl W; rw [HQ1.out] at hq; first | (go_simp; done) | (go_simp; with_reducible rfl)
          try simp only [Act.put, List.setIfInBounds_toArray, List.set_cons_zero, List.set_cons_succ]
          refine wpG_take (i := 8) (oi := { dst := some 101, op := Op.binOp BinOp.eql 4 (Operand.tmp 97) (Operand.tmp 100) 4, type := 4, pos := "law.go:88", after := #[{ on := 4, ground := Ground.data }, { on := 7, ground := Ground.data }], guard := none }) (v := ?_) rfl (by kernel_rfl) (by kernel_rfl) (by kernel_rfl) (by rfl) ?_ ?_
          rotate_left
          · intro W hW; first | (go_simp; done) | (go_simp; with_reducible rfl)
          try simp only [Act.put, List.setIfInBounds_toArray, List.set_cons_zero, List.set_cons_succ]
          refine wpG_take (i := 9) (oi := { dst := some 4, op := Op.assign (Operand.tmp 101), type := 4, pos := "law.go:88", after := #[{ on := 8, ground := Ground.data }, { on := 3, ground := Ground.chain }, { on := 0, ground := Ground.phase }, { on := 1, ground := Ground.phase }, { on := 2, ground := Ground.phase }, { on := 3, ground := Ground.phase }, { on := 4, ground := Ground.phase }, { on := 5, ground := Ground.phase }, { on := 6, ground := Ground.phase }, { on := 7, ground := Ground.phase }, { on := 8, ground := Ground.phase }], guard := none }) (v := ?_) rfl (by kernel_rfl) (by kernel_rfl) (by kernel_rfl) (by rfl) ?_ ?_
          rotate_left
          · intro W hW; first | (go_simp; done) | (go_simp; with_reducible rfl)
          try simp only [Act.put, List.setIfInBounds_toArray, List.set_cons_zero, List.set_cons_succ]
          refine wpG_done (by kernel_rfl) ?_

          go_wp2
          go_ret
          exact ⟨rfl, hb3⟩
end Go.Proofs.YtiffdfpkfcielabDoor
