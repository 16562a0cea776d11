/- What a key is multiplied with: a contract of package poly, fourth part. -/
import Derived.Test.YtliiofjcghdjoaaDoorP08c
import Derived.Test.YtliiofjcghdjoaaDoorBase
namespace Go.Proofs.YtliiofjcghdjoaaDoor
open Go.ChangeShapes Go.WideShapes Go.ChangeAt Go.RowKit
set_option linter.unusedSimpArgs false
set_option linter.unusedVariables false

/-- The table lies where the program laid it. -/
def KpT (w : World) : Prop := ∀ i, i < 16 → w.cell? ⟨1, i, none⟩ = some (.int .u8 ((kpL.getD i 0 : Nat) : Int))
theorem KpT.kept {w w' : World} (h : KpT w) (hb : Below w.heap.size w w') : KpT w' := fun i hi => by
  rw [hb.cell (p := ⟨1, i, none⟩) (World.block_lt_of_cell? w _ (h i hi))]
  exact h i hi
/-- The first i bytes of one, the others of another one. -/
def mxB (x a : List UInt8) (i : Nat) : List UInt8 := x.take i ++ a.drop i
theorem mxB_zero (x a : List UInt8) : mxB x a 0 = a := by simp [mxB]
theorem mxB_full {x a : List UInt8} {n : Nat} (hx : x.length = n) (ha : a.length = n) : mxB x a n = x := by
  unfold mxB
  rw [List.take_of_length_le (by omega), List.drop_eq_nil_of_le (by omega), List.append_nil]
theorem mxB_set {x a : List UInt8} {n : Nat} (hx : x.length = n) (ha : a.length = n) (i : Nat) (hi : i < n) : (mxB x a i).set i (x.getD i 0) = mxB x a (i + 1) := by
  have h1 : (x.take i).length = i := by rw [List.length_take, hx]; omega
  have h2 : i < x.length := by omega
  have h3 : i < a.length := by omega
  unfold mxB
  rw [List.set_append_right _ _ (by omega), h1, Nat.sub_self, List.drop_eq_getElem_cons h3, List.set_cons_zero, List.take_succ_eq_append_getElem h2, List.append_assoc]
  simp [h2]
theorem mxB_len {x a : List UInt8} {n : Nat} (hx : x.length = n) (ha : a.length = n) (i : Nat) (hi : i ≤ n) : (mxB x a i).length = n := by
  unfold mxB
  rw [List.length_append, List.length_take, List.length_drop, hx, ha]
  omega
/-- Where a row of bytes lies that is not empty. -/
theorem Rd.cells {w : World} {v : Value} {l : List UInt8} (h : Rd w v l) (hl : 0 < l.length) : ∃ b off cap, v = .slice (some ⟨b, off, none⟩) l.length cap ∧ l.length ≤ cap ∧ cap ≤ maxLen ∧ ∀ i, i < l.length → w.cell? ⟨b, off + i, none⟩ = some (.int .u8 ((l.getD i 0).toNat : Int)) := by
  obtain ⟨a, cap, e, h2, h3, h4, h5⟩ := h
  rcases h5 with h5 | ⟨b, off, ha, hc⟩
  · rw [h5] at hl
    simp at hl
  · subst ha
    exact ⟨b, off, cap, e, h2, h3, hc⟩

set_option maxRecDepth 100000 in
set_option maxHeartbeats 2000000 in
theorem pclamp_arg (vk : Value) (k : List UInt8) (w : World) (hk : Rd w vk k) (h : k.length ≠ 32) :
    Calls Tryd.prog 79 #[vk] w fun e w' => e = .returned (.slice none 0 0) ∧ w' = w := by
  obtain ⟨ak, ck, rfl, -, hmk, -, -⟩ := id hk
  have hne : ((k.length : Int) != 32) = true := by simp; omega
  go_enter Tryd.func79, Tryd.ntmps79
  go_wp2
  go_ret
  exact ⟨rfl, rfl⟩

set_option maxRecDepth 100000 in
set_option maxHeartbeats 2000000 in
theorem pclamp_any (vk : Value) (k : List UInt8) (w : World) (hT : KpT w) (hr : Rd w vk k) (hk32 : k.length = 32) :
    Calls Tryd.prog 79 #[vk] w fun e w' => ∃ r, e = .returned r ∧ New 5 w r (clP k) w' := by
  obtain ⟨ti, hti, hz0, hz1, hz2⟩ := info_parts info5
  obtain ⟨bk, ok, ck, rfl, hck, hmk, hcells⟩ := hr.cells (by omega)
  rw [hk32] at hck ⊢
  have HCells : Hid (∀ i, i < 16 → w.cell? ⟨bk, ok + i, none⟩ = some (.int .u8 ((k.getD i 0).toNat : Int))) := fun i hi => hcells i (by omega)
  have HT : Hid (KpT w) := hT
  unfold maxLen at hmk
  clear hr hk32 hT hcells
  have hcl : (clP k).length = 16 := clP_length k
  have HCl : Hid _ := hcl
  clear hcl
  go_enter Tryd.func79, Tryd.ntmps79
  go_wp2_with (at_make; go_must (refine wpList_make_full _ rfl _ _ 40 rfl w.heap.size 5 ti _ 1 Tryd.underlying40 hti hz0 hz1 _ _ _ _ 16 rfl rfl rfl rfl (by rw [hz2]; omega) (by unfold maxLen; omega) (Nat.le_refl _) ?_))
  intro w1 hown hgr
  have hN1 := New.made hown hgr
  rw [← mxB_zero (clP k) (List.replicate 16 0)] at hN1
  have hlR : (List.replicate 16 (0 : UInt8)).length = 16 := by simp
  have HlR : Hid _ := hlR
  generalize List.replicate 16 (0 : UInt8) = Z at hN1 HlR
  clear hown hgr hlR
  go_wp2
  go_loopw [9] (fun iv wx => ∃ i : Nat, i ≤ 16 ∧ iv = .int .i64 (i : Int) ∧ New 5 w (.slice (some ⟨w.heap.size, 0, none⟩) 16 16) (mxB (clP k) Z i) wx) (fun iv _ => 16 - (intOf iv).toNat)
  case atStart => exact ⟨0, by omega, rfl, hN1⟩
  case round =>
    obtain ⟨i, hi, rfl, hN⟩ := hrel
    clear hN1
    by_cases hlt : i < 16
    · have hd : decide ((i : Int) < 16) = true := decide_eq_true (by omega)
      have hiI : (i : Int) < 16 := by omega
      have hiK : (i : Int) < 32 := by omega
      obtain ⟨g', c', ev, -, hcell, hfree, hset⟩ := hN.store (j := i) (by rw [mxB_len HCl.out HlR.out i hi]; exact hlt)
      simp only [Value.slice.injEq, Option.some.injEq, Addr.mk.injEq, and_true, true_and] at ev
      obtain ⟨rfl, -, rfl⟩ := ev
      have hck := cellK (HCells.out i hlt) hN.2
      have hct := (HT.out.kept hN.2) i hlt
      have hv : bits .and .u8 ((k.getD i 0).toNat : Int) ((kpL.getD i 0 : Nat) : Int) = (((clP k).getD i 0).toNat : Int) := by
        rw [u8_and_nat _ _ (k.getD i 0).toNat_lt (kp_lt i hlt), clP_get k i hlt]
      have HNx : Hid (∀ W : World, Below wr.heap.size wr W → New 5 w (.slice (some ⟨w.heap.size, 0, none⟩) 16 16) (mxB (clP k) Z (i + 1)) (W.setCell ⟨w.heap.size, i, none⟩ (.int .u8 (((clP k).getD i 0).toNat : Int)))) := by
        intro W hW
        obtain ⟨g2, c2, ev2, -, -, -, hset2⟩ := (hN.kept hW).store (j := i) (by rw [mxB_len HCl.out HlR.out i hi]; exact hlt)
        simp only [Value.slice.injEq, Option.some.injEq, Addr.mk.injEq, and_true, true_and] at ev2
        obtain ⟨rfl, -, rfl⟩ := ev2
        have := hset2 ((clP k).getD i 0)
        rw [mxB_set HCl.out HlR.out i hlt] at this
        exact this
      have hcell' := hcell
      generalize ((clP k).getD i 0).toNat = y at hv HNx
      generalize (k.getD i 0).toNat = p at hck hv
      generalize kpL.getD i 0 = q at hct hv
      clear hset hN
      go_wp2_with fail
      have hB : Below wr.heap.size wr wr.drew := (Below.refl _ _).drew
      refine wpF_begin 11 (w0 := wr) (by kernel_rfl) ?_
      refine fP_ (.inr hB) 0 rfl ⟨_, by intro W; go_simp <;> with_reducible rfl, ?_⟩
      try simp only [Act.put, pA_, pB_, pC_]
      refine fP_ (.inr hB) 1 rfl ⟨_, by intro W; go_simp <;> with_reducible rfl, ?_⟩
      try simp only [Act.put, pA_, pB_, pC_]
      refine fP_ (.inr hB) 2 rfl ⟨_, by intro W; go_simp <;> with_reducible rfl, ?_⟩
      try simp only [Act.put, pA_, pB_, pC_]
      refine fP_ (.inr hB) 3 rfl ⟨_, by intro W; go_simp <;> with_reducible rfl, ?_⟩
      try simp only [Act.put, pA_, pB_, pC_]
      refine fP_ (.inr hB) 4 rfl ⟨_, by intro W; go_simp <;> with_reducible rfl, ?_⟩
      try simp only [Act.put, pA_, pB_, pC_]
      refine fU_ hB 5 rfl ⟨_, by intro W hW; have hcW := cellK hck hW; go_simp <;> with_reducible rfl, ?_⟩
      try simp only [Act.put, pA_, pB_, pC_]
      refine fP_ (.inr hB) 6 rfl ⟨_, by intro W; go_simp <;> with_reducible rfl, ?_⟩
      try simp only [Act.put, pA_, pB_, pC_]
      refine fP_ (.inr hB) 7 rfl ⟨_, by intro W; go_simp <;> with_reducible rfl, ?_⟩
      try simp only [Act.put, pA_, pB_, pC_]
      refine fU_ hB 8 rfl ⟨_, by intro W hW; have hcW := cellK hct hW; go_simp <;> with_reducible rfl, ?_⟩
      try simp only [Act.put, pA_, pB_, pC_]
      refine fP_ (.inr hB) 9 rfl ⟨_, by intro W; go_simp <;> with_reducible rfl, ?_⟩
      try simp only [Act.put, pA_, pB_, pC_]
      refine fP_ (.inr hB) 10 rfl ⟨_, by intro W; go_simp <;> with_reducible rfl, ?_⟩
      try simp only [Act.put, pA_, pB_, pC_]
      refine fD_ 11 fun K hK => ?_
      go_simp
      refine hK.out _ _ (.inl rfl) ?_
      clear hK K
      try simp only [Act.put, pA_, pB_, pC_]
      refine wpF_done (by kernel_rfl) ?_
      have hN2 := HNx.out _ hB
      go_wp2
      go_roundw
      case rel => exact ⟨i + 1, by omega, by go_num, hN2⟩
      case measure => simp [intOf] <;> omega
    · have hie : i = 16 := by omega
      have hd : decide ((i : Int) < 16) = false := decide_eq_false (by omega)
      have hiI : (16 : Int) ≤ (i : Int) := by omega
      rw [hie, mxB_full HCl.out HlR.out] at hN
      clear hie
      go_wp2
      go_ret
      exact ⟨_, rfl, hN⟩
end Go.Proofs.YtliiofjcghdjoaaDoor
