/- What the small functions of package hkdf answer: a key laid into a block, and a byte added to each of a block's. -/
import Derived.Test.YtfiefohdceokdaaDoorBase
import Derived.Test.YtfiefohdceokdaaDoorSp
import Derived.Test.YtfiefohdceokdaaDoorKec
namespace Go.Proofs.YtfiefohdceokdaaDoor
open Go.ChangeShapes Go.WideShapes Go.ChangeAt Go.RowKit
set_option linter.unusedSimpArgs false
set_option linter.unusedVariables false

theorem alloc136 (w : World) : (Instr.alloc 35 true (.tuple #[])).run Tryd.prog w = .ok (.pointer (some ⟨w.heap.size, 0, none⟩)) (w.alloc (.cells ((byI (List.replicate 136 0)).map (Value.int .u8)).toArray 35)) := by kernel_rfl
theorem info136 {l : List UInt8} (h : l.length = 136) : (Tryd.prog.info? 35).map (·.size) = some (byI l).length := by
  rw [byI_length, h]
  kernel_rfl
theorem ne136 {l : List UInt8} (h : l.length = 136) : byI l ≠ [] := byI_ne (by rw [← List.length_pos_iff]; omega)
theorem max136 {l : List UInt8} (h : l.length = 136) : (byI l).length ≤ maxLen := by
  rw [byI_length, h]
  decide
/-- Noughts. -/
def zs136 : List UInt8 := List.replicate 136 0
theorem zs136_length : zs136.length = 136 := List.length_replicate
theorem zs_lay (k : List UInt8) : kyS k ++ zs136.drop (kyS k).length = kyL k := by
  unfold zs136 kyL
  rw [List.drop_replicate]

set_option maxRecDepth 100000 in
set_option maxHeartbeats 1000000 in
theorem lay_any (vk : Value) (k : List UInt8) (w : World) (hr : Rd w vk k) (ht : Tabs w) :
    Calls Tryd.prog 21 #[vk] w fun e w' => e = .returned (arB (kyL k)) ∧ Below w.heap.size w w' := by
  obtain ⟨ak, capk, rfl, hcapk, hmaxk, hnilk, -⟩ := id hr
  unfold maxLen at hmaxk
  have hK1 := kyS_length k
  have HK2 : Hid ((kyL k).length = 136) := kyL_length k
  have HZ : Hid _ := zs_lay k
  have hz := zs136_length
  go_enter Tryd.func21, Tryd.ntmps21
  go_wp2_with (refine wpList_alloc_row (k := .u8) rfl 35 rfl (byI zs136) (alloc136 _) (ne136 hz) (max136 hz) ?_)
  intro w1 r1 b1 s1
  rw [byI_length, hz] at r1
  have hr1 := hr.kept b1
  have ht1 := ht.kept b1
  have HZ2 : Hid (zs136.length = 136) := hz
  clear hr ht hz
  by_cases hlong : 136 < k.length
  case' pos =>
    have HS : Hid (s2L k = kyS k) := by show _ = _; unfold kyS; rw [if_pos hlong]
    have hd : decide ((136 : Int) < (k.length : Int)) = true := decide_eq_true (by omega)
    have hlI : (136 : Int) < (k.length : Int) := by omega
    go_wp2_with fail
    refine (sum256_any _ k _ hr1 ht1).mono ?_
    rintro e w2 ⟨v2, rfl, hN2⟩
    have b2 := hN2.2
    have hR2 : Rd w2 v2 (kyS k) := by rw [← HS.out]; exact hN2.rd
    have r2 := r1.kept b2
    clear HS hN2 hd hlI hlong
  case' neg =>
    have HS : Hid (k = kyS k) := by show _ = _; unfold kyS; rw [if_neg hlong]
    have hd : decide ((136 : Int) < (k.length : Int)) = false := decide_eq_false (by omega)
    have hlI : (k.length : Int) ≤ 136 := by omega
    have b2 := Below.refl w1.heap.size w1
    have hR2 : Rd w1 (.slice ak k.length capk) (kyS k) := by rw [← HS.out]; exact hr1
    have r2 := r1
    clear HS hlong
  all_goals
    go_wp2_with (refine wpList_alloc_row (k := .u8) rfl 35 rfl (byI zs136) (alloc136 _) (ne136 HZ2.out) (max136 HZ2.out) ?_)
    intro w3 r3 b3 s3
    rw [byI_length, HZ2.out] at r3
    have hR3 := hR2.kept b3
    have b13 := stepB b2 b3
    have r23 := r2.kept b3
    have hge := b2.size
    clear hR2 r2
    go_wp2_with (refine wpList_copy_row (w := w1) rfl _ _ 22 rfl 5 Tryd.underlying22 (by kernel_rfl) zs136 rfl HZ2.out.symm r3 _ (kyS k) rfl hR3 (by rw [HZ2.out]; exact hK1) (by rw [← List.length_pos_iff, HZ2.out]; omega) b13 hge ?_)
    intro w4 r4 b4
    rw [HZ.out] at r4
    have z4 := b4.size
    clear hR3 r3 r23
    have r5 := r1.kept b4
    go_wp2_with (first | refine wpList_load_row rfl 35 _ rfl rfl r4 _ Tryd.underlying35 rfl (info136 HK2.out) ?_ | (refine wpList_store_row rfl 35 _ _ rfl (byI (kyL k)) rfl rfl r5 (by rw [byI_length, byI_length, HZ2.out, HK2.out]) (info136 HZ2.out) ?_; intro w6 r6 hw6))
    refine bodyPost_row (p := 2) (ty := 35) rfl rfl rfl r6 Tryd.underlying35 rfl (info136 HK2.out) ?_
    exact ⟨rfl, hw6.below _ _ (by omega) (stepB b1 b4)⟩

/-- A block of which the first j bytes have had c added. -/
def mxD (l : List UInt8) (c : UInt8) (j : Nat) : List UInt8 := mxP l c j ++ l.drop j
theorem mxD_zero (l : List UInt8) (c : UInt8) : mxD l c 0 = l := by simp [mxD, mxP]
theorem mxD_length (l : List UInt8) (c : UInt8) (j : Nat) (h : j ≤ l.length) : (mxD l c j).length = l.length := by simp [mxD, mxP]; omega
theorem mxD_get (l : List UInt8) (c : UInt8) (j : Nat) : (mxD l c j).getD j 0 = l.getD j 0 := by
  simp [mxD, mxP_length, List.getElem?_append_right]
theorem mxD_set (l : List UInt8) (c : UInt8) (j : Nat) (h : j < l.length) : (mxD l c j).set j (l.getD j 0 ^^^ c) = mxD l c (j + 1) := by
  unfold mxD
  rw [List.set_append_right _ _ (by rw [mxP_length]; exact Nat.le_refl _), mxP_length, Nat.sub_self, List.drop_eq_getElem_cons h, List.set_cons_zero, ← mxP_next, List.append_assoc]
  rfl
theorem mxD_full (l : List UInt8) (c : UInt8) (n : Nat) (h : l.length = n) : mxD l c n = mxP l c n := by
  unfold mxD
  rw [List.drop_eq_nil_of_le (by omega), List.append_nil]

set_option maxRecDepth 100000 in
set_option maxHeartbeats 1000000 in
theorem add_any (A : Array Value) (l : List UInt8) (hl : l.length = 136) (hA : A = ((byI l).map (Value.int .u8)).toArray) (c : UInt8) (C : Int) (hC : C = (c.toNat : Int)) (w : World) :
    Calls Tryd.prog 22 #[.agg A, .int .u8 C] w fun e w' => e = .returned (arB (mxP l c 136)) ∧ Below w.heap.size w w' := by
  subst hC
  have hz := zs136_length
  go_enter Tryd.func22, Tryd.ntmps22
  go_wp2_with (refine wpList_box_row (k := .u8) rfl 35 _ rfl (byI l) (by rw [← hA]; rfl) (ne136 hl) (max136 hl) ?_)
  intro w1 r1 b1 s1
  rw [byI_length, hl] at r1
  go_wp2_with (refine wpList_alloc_row (k := .u8) rfl 35 rfl (byI zs136) (alloc136 _) (ne136 hz) (max136 hz) ?_)
  intro w2 r2 b2 s2
  rw [byI_length, hz] at r2
  have r12 := r1.kept b2
  have b12 := stepB b1 b2
  have HL : Hid (l.length = 136) := hl
  have HZ2 : Hid (zs136.length = 136) := hz
  have hgw : w.heap.size ≠ w1.heap.size := by have := s1.out; omega
  have hgl : w.heap.size ≤ w1.heap.size := by have := s1.out; omega
  clear r1 b2 b1 hA hl hz
  go_wp2
  go_loopw [6] (fun i wr => ∃ j : Nat, j ≤ 136 ∧ i = .int .i64 j ∧ RowAt .u8 35 w.heap.size 136 (byI (mxD l c j)) wr ∧ RowAt .u8 35 w1.heap.size 136 (byI zs136) wr ∧ Below w.heap.size w wr) (fun i _ => 136 - (intOf i).toNat)
  case atStart => exact ⟨0, by omega, rfl, by rw [mxD_zero]; exact r12, r2, b12⟩
  case round =>
    obtain ⟨j, hj, rfl, ra, rb, hb⟩ := hrel
    clear r12 r2 b12
    by_cases hlt : j < 136
    · have hd : decide ((j : Int) < 136) = true := decide_eq_true (by omega)
      have hjI : (j : Int) < 136 := by omega
      have hc := ra.cellB (j := j) (by rw [mxD_length _ _ _ (by have := HL.out; omega)]; have := HL.out; omega)
      have hf := ra.free j
      rw [mxD_get] at hc
      have rn := ra.setB j (l.getD j 0 ^^^ c)
      rw [mxD_set _ _ _ (by have := HL.out; omega)] at rn
      have rbn := rb.other (p := ⟨w.heap.size, j, none⟩) hgw (.int .u8 ((l.getD j 0 ^^^ c).toNat : Int))
      have hbn : Below w.heap.size w (wr.setCell ⟨w.heap.size, j, none⟩ (.int .u8 ((l.getD j 0 ^^^ c).toNat : Int))) := (Wrote.set w.heap.size j wr _).below _ _ (Nat.le_refl _) hb
      have x1 := byte_xor (l.getD j 0) c
      generalize l.getD j 0 = q at hc rn rbn hbn x1
      clear ra rb hb
      go_wp2
      go_roundw
      case rel => exact ⟨j + 1, by omega, by go_num, rn, rbn, hbn⟩
      case measure => simp [intOf]; omega
    · have hje : j = 136 := by omega
      have hd : decide ((j : Int) < 136) = false := decide_eq_false (by omega)
      have hjI : (136 : Int) ≤ (j : Int) := by omega
      rw [hje, mxD_full _ _ _ HL.out] at ra
      have HM : Hid ((mxP l c 136).length = 136) := mxP_length _ _ _
      clear hje
      go_wp2_with (first | refine wpList_load_row rfl 35 _ rfl rfl ra _ Tryd.underlying35 rfl (info136 HM.out) ?_ | (refine wpList_store_row rfl 35 _ _ rfl (byI (mxP l c 136)) rfl rfl rb (by rw [byI_length, byI_length, HZ2.out, HM.out]) (info136 HZ2.out) ?_; intro w6 r6 hw6))
      refine bodyPost_row (p := 4) (ty := 35) rfl rfl rfl r6 Tryd.underlying35 rfl (info136 HM.out) ?_
      exact ⟨rfl, hw6.below _ _ hgl hb⟩
end Go.Proofs.YtfiefohdceokdaaDoor
