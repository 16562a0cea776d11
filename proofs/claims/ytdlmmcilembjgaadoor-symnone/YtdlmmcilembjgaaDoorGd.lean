/- What functions of the program, or of the reference, answer: contracts; several texts in one. -/
import Derived.Test.YtdlmmcilembjgaaDoorGb
import Derived.Test.YtdlmmcilembjgaaDoorBase
import Derived.Deep.DeepCutAuto
import Derived.Test.YtdlmmcilembjgaaDoorGc
import Derived.Test.YtdlmmcilembjgaaDoorGa
import Derived.OwnWalk

namespace Go.Proofs.YtdlmmcilembjgaaDoor
open Go.ChangeShapes Go.WideShapes Go.ChangeAt Go.RowKit
set_option linter.unusedSimpArgs false
set_option linter.unusedVariables false

theorem wp_alloc_nm {w0 : World} {op : Oper} {a : Act} {w : World} {K : Act → World → Prop} {Q : Exit → Act → World → Prop} (hB : Below w0.heap.size w0 w) (ho : op.op = .alloc 95)
  (h : ∀ g w', RowAt .u64 95 g 3 (nI z3) w' → w0.heap.size ≤ g → w.heap.size ≤ g → Below w.heap.size w w' → Below w0.heap.size w0 w' → K (a.put op.dst (.pointer (some ⟨g, 0, none⟩))) w') : op.wp Tryd.prog a w K Q := by
 unfold Oper.wp execOp
 simp only [ho, Sem.run_bind, alloc_nm, Result.andThen_ok, Sem.run_pure]
 refine h _ _ (RowAt.fresh (nI z3) rfl rfl z3_nm.len.symm z3_nm.ne (nmMax z3_nm)) hB.size (Nat.le_refl _) (growB _) (stepB hB (growB _))
theorem wp_store_nm {w0 : World} {g : Nat} {l l2 : List Nat} {op : Oper} {a : Act} {w : World} {K : Act → World → Prop} {Q : Exit → Act → World → Prop} (hB : Below w0.heap.size w0 w) (hge : w0.heap.size ≤ g) (x y : Operand) (ho : op.op = .store 95 x y)
  (hx : a.eval x = .pointer (some ⟨g, 0, none⟩)) (hy : a.eval y = nmV l2) (hr : RowAt .u64 95 g 3 (nI l) w) (hl : Nm3 l) (hl2 : Nm3 l2)
  (h : ∀ w', RowAt .u64 95 g 3 (nI l2) w' → Wrote g w w' → Below w0.heap.size w0 w' → K (a.put op.dst undef) w') : op.wp Tryd.prog a w K Q :=
 wp_store_row 95 x y ho (nI l2) hx hy hr (by rw [hl.len, hl2.len]) (nmInfo hl) fun w' h1 h2 => h w' h1 h2 (h2.below _ _ hge hB)
def rowLen8 : Value → Nat
 | .slice _ n _ => n
 | _ => 0
theorem RdL.pair8 {w : World} {e : TypeId} {v1 v2 : Value} {l1 l2 : List UInt8} {b : Nat} (hb : b = w.heap.size) (h1 : Rd w v1 l1) (h2 : Rd w v2 l2) : RdL (w.alloc (.cells #[v1, v2] e)) (.slice (some ⟨b, 0, none⟩) 2 2) [v1, v2] [l1, l2] := by
 subst hb
 refine RdL.lit [v1, v2] [l1, l2] rfl rfl rfl (by unfold maxLen; simp) rfl fun i hi => ?_
 match i, hi with
 | 0, _ => exact h1
 | 1, _ => exact h2
theorem New.pair8 {e : TypeId} {w w' : World} {v : Value} {l1 l2 : List UInt8} (h : New e w v [l1, l2].flatten w') : New e w v (l1 ++ l2) w' := by
 simpa using h
theorem drop_more (b : List UInt8) (j m L : Nat) (hL : L = (b.drop (16 * j)).length) (hm : m = min L 16) : (b.drop (16 * j)).drop m = b.drop (16 * (j + 1)) ∧ (b.drop (16 * j)).take m = (b.drop (16 * j)).take 16 := by
 rw [List.length_drop] at hL
 rw [List.drop_drop]
 refine ⟨?_, ?_⟩
 ·by_cases h : 16 ≤ L
  ·rw [show 16 * j + m = 16 * (j + 1) by omega]
  ·rw [List.drop_eq_nil_of_le (by omega), List.drop_eq_nil_of_le (by omega)]
 ·by_cases h : 16 ≤ L
  ·rw [show m = 16 by omega]
  ·rw [List.take_of_length_le (by rw [List.length_drop]; omega), List.take_of_length_le (by rw [List.length_drop]; omega)]

theorem mac_sum_lt (k b : List UInt8) (hk : k.length = 32) : accN (leN (clP k)) b (nblk b.length) + leN (k.drop 16) < 6277101735386680763835789423207666416102355444464034512896 := by
 have h1 := accN_lt (leN (clP k)) b (nblk b.length)
 have h2 := leN_lt (k.drop 16)
 rw [List.length_drop, hk, show 32 - 16 = 16 from rfl] at h2
 rw [p8_val] at h1
 omega
theorem mcP_eq (k b : List UInt8) (hk : k.length = 32) : mcP k b = (List.range 16).map (stB (accN (leN (clP k)) b (nblk b.length) + leN (k.drop 16))) := by
 unfold mcP
 rw [List.take_of_length_le (by rw [List.length_drop, hk]; decide)]

set_option maxRecDepth 100000 in
set_option maxHeartbeats 8000000 in
theorem pmac_any (vk vb : Value) (k b : List UInt8) (w : World) (hT : KpT w) (hk : Rd w vk k) (hb : Rd w vb b) (hk32 : k.length = 32) :
  Calls Tryd.prog 61 #[vk, vb] w fun e w' => ∃ r, e = .returned r ∧ New 5 w r (mcP k b) w' := by
 obtain ⟨bk, ok, ck, ev, hck, hmk, -⟩ := hk.cells (by omega)
 rw [hk32] at ev hck
 subst ev
 have HT : Hid (KpT w) := hT
 have HK : Hid (Rd w (.slice (some ⟨bk, ok, none⟩) 32 ck) k) := hk
 have hs := hk.sub 16 32 (by omega) (by omega)
 have hk16 : (k.drop 16).take (32 - 16) = k.drop 16 := by rw [List.take_of_length_le (by rw [List.length_drop]; omega)]
 rw [hk16] at hs
 have HS : Hid (Rd w (.slice (some ⟨bk, ok + 16, none⟩) 16 (ck - 16)) (k.drop 16)) := hs
 have HK32 : Hid _ := hk32
 have HB : Hid (Rd w vb b) := hb
 unfold maxLen at hmk
 have ym1 : ¬ ck = 16 := by omega
 have ym2 : (32 : Int) ≤ (ck : Int) := by omega
 clear hk hs hk16 hk32 hT hb
 go_enter Tryd.func61, Tryd.ntmps61
 go_upto_region 3 with fail
 go_cut [5, 6] (fun v5 v6 wx => ∃ (g5 g6 : Nat) (r s : List Nat), v5 = .pointer (some ⟨g5, 0, none⟩) ∧ v6 = .pointer (some ⟨g6, 0, none⟩) ∧ w.heap.size ≤ g5 ∧ w.heap.size ≤ g6 ∧ g5 ≠ g6 ∧ Hid (Nm3 r) ∧ Hid (Nm3 s) ∧ Hid (wv r = leN (clP k)) ∧ Hid (wv s = leN (k.drop 16)) ∧
  RowAt .u64 95 g5 3 (nI r) wx ∧ RowAt .u64 95 g6 3 (nI s) wx ∧ Below w.heap.size w wx)
 case first =>
  have hB : Below w.heap.size w w.drew := (Below.refl _ _).drew
  refine wpB_begin (Below.refl w.heap.size w) (by kernel_rfl) ?_
  refine wpB_t (hb := hB) (i := 0) (oi := ⟨some 12, .move (.tmp 0), 22, "poly.go:106", #[], none⟩) (v := ?_) ?_ ?_
  rotate_left
  ·intro W hW; go_simp <;> with_reducible rfl
  try simp only [Act.put, putA, putB, putC]
  refine wpB_t (hb := hB) (i := 3) (oi := ⟨some 15, .move (.tmp 0), 22, "poly.go:106", #[], none⟩) (v := ?_) ?_ ?_
  rotate_left
  ·intro W hW; go_simp <;> with_reducible rfl
  try simp only [Act.put, putA, putB, putC]
  refine wpB_t (hb := hB) (i := 4) (oi := ⟨some 16, .slice 22 (.tmp 15) (some (.const (.int .i64 16))) none none, 22, "poly.go:106", #[⟨3, .data⟩], none⟩) (v := ?_) ?_ ?_
  rotate_left
  ·intro W hW; go_simp <;> with_reducible rfl
  try simp only [Act.put, putA, putB, putC]
  refine wpB_fork3 (i := 1) (j := 6) (k := 7) (oi := ⟨some 13, .call { callee := .value (.func 73), args := #[.tmp 12], argTypes := #[22] }, 22, "poly.go:106", #[⟨0, .data⟩], none⟩) (oj := ⟨some 5, .alloc 95, 0, "poly.go:106", #[], none⟩) (ok := ⟨some 6, .alloc 95, 0, "poly.go:106", #[], none⟩) (by kernel_rfl) rfl rfl rfl (by rfl) (by rfl) (by rfl) (fun K hK => ?_) (fun K hK => ?_) (fun K hK => ?_)
  ·go_simp
   refine (pclamp_any _ k _ (HT.out.kept hB) (HK.out.kept hB) HK32.out).mono ?_
   rintro e wq ⟨vC, rfl, hN1⟩
   have hC := hN1.rd
   replace hB := stepB hB hN1.2
   try replace hG5 := hG5.kept hN1.2
   try replace hG6 := hG6.kept hN1.2
   refine hK.out _ _ hB ?_
   clear hK K
   try simp only [Act.put, putA, putB, putC]
   refine wpB_fork3 (i := 2) (j := 6) (k := 7) (oi := ⟨some 14, .call { callee := .value (.func 72), args := #[.tmp 13], argTypes := #[22] }, 95, "poly.go:106", #[⟨1, .data⟩, ⟨1, .chain⟩], none⟩) (oj := ⟨some 5, .alloc 95, 0, "poly.go:106", #[], none⟩) (ok := ⟨some 6, .alloc 95, 0, "poly.go:106", #[], none⟩) (by kernel_rfl) rfl rfl rfl (by rfl) (by rfl) (by rfl) (fun K hK => ?_) (fun K hK => ?_) (fun K hK => ?_)
   ·go_simp
    refine (numberOf_any _ (clP k) _ hC (by rw [clP_length]; decide)).mono ?_
    rintro e wq ⟨r, rfl, hr, hvr, bq⟩
    replace hB := stepB hB bq
    try replace hG5 := hG5.kept bq
    try replace hG6 := hG6.kept bq
    refine hK.out _ _ hB ?_
    clear hK K
    try simp only [Act.put, putA, putB, putC]
    refine wpB_fork3 (i := 5) (j := 6) (k := 7) (oi := ⟨some 17, .call { callee := .value (.func 72), args := #[.tmp 16], argTypes := #[22] }, 95, "poly.go:106", #[⟨4, .data⟩, ⟨2, .chain⟩], none⟩) (oj := ⟨some 5, .alloc 95, 0, "poly.go:106", #[], none⟩) (ok := ⟨some 6, .alloc 95, 0, "poly.go:106", #[], none⟩) (by kernel_rfl) rfl rfl rfl (by rfl) (by rfl) (by rfl) (fun K hK => ?_) (fun K hK => ?_) (fun K hK => ?_)
    ·go_simp
     refine (numberOf_any _ (k.drop 16) _ (HS.out.kept hB) (by rw [List.length_drop, HK32.out]; decide)).mono ?_
     rintro e wq ⟨s, rfl, hs, hvs, bq⟩
     replace hB := stepB hB bq
     try replace hG5 := hG5.kept bq
     try replace hG6 := hG6.kept bq
     refine hK.out _ _ hB ?_
     clear hK K
     try simp only [Act.put, putA, putB, putC]
     refine wpB_fork (i := 6) (j := 7) (oi := ⟨some 5, .alloc 95, 0, "poly.go:106", #[], none⟩) (oj := ⟨some 6, .alloc 95, 0, "poly.go:106", #[], none⟩) (by kernel_rfl) rfl rfl (by rfl) (by rfl) (fun K hK => ?_) (fun K hK => ?_)
     ·refine wp_alloc_nm hB rfl ?_
      intro g5 wA hG5 hge5 hgw5 hbA hBA
      replace hB := hBA
      try have hlt6 := hG6.lt
      try replace hG6 := hG6.kept hbA
      try replace hC := hC.kept hbA
      refine hK.out _ _ hB ?_
      clear hK K
      try simp only [Act.put, putA, putB, putC]
      refine wpB_do (i := 7) (o := ⟨some 6, .alloc 95, 0, "poly.go:106", #[], none⟩) (by kernel_rfl) rfl (by rfl) fun K hK => ?_
      refine wp_alloc_nm hB rfl ?_
      intro g6 wA hG6 hge6 hgw6 hbA hBA
      replace hB := hBA
      try have hlt5 := hG5.lt
      try replace hG5 := hG5.kept hbA
      try replace hC := hC.kept hbA
      refine hK.out _ _ hB ?_
      clear hK K
      try simp only [Act.put, putA, putB, putC]
      refine wpB_do (i := 8) (o := ⟨none, .store 95 (.tmp 5) (.tmp 14), 0, "poly.go:106", #[⟨6, .data⟩, ⟨2, .data⟩, ⟨5, .chain⟩, ⟨0, .phase⟩, ⟨1, .phase⟩, ⟨2, .phase⟩, ⟨3, .textOnly .lateStores⟩, ⟨4, .textOnly .lateStoresUnsure⟩, ⟨5, .textOnly .lateStoresUnsure⟩, ⟨6, .phase⟩, ⟨7, .phase⟩], none⟩) (by kernel_rfl) rfl (by rfl) fun K hK => ?_
      have hne56 : g5 ≠ g6 := by omega
      refine wp_store_nm (l := z3) (l2 := r) hB hge5 _ _ rfl rfl rfl hG5 z3_nm hr ?_
      intro wS hG5S hwS hBS
      replace hB := hBS
      replace hG6 := hG6.wrote hwS (by omega)
      refine hK.out _ _ hB ?_
      clear hK K
      try simp only [Act.put, putA, putB, putC]
      refine wpB_do (i := 9) (o := ⟨none, .store 95 (.tmp 6) (.tmp 17), 0, "poly.go:106", #[⟨7, .data⟩, ⟨5, .data⟩, ⟨8, .chain⟩, ⟨0, .phase⟩, ⟨1, .phase⟩, ⟨2, .phase⟩, ⟨3, .phase⟩, ⟨4, .phase⟩, ⟨5, .phase⟩, ⟨6, .phase⟩, ⟨7, .phase⟩, ⟨8, .phase⟩], none⟩) (by kernel_rfl) rfl (by rfl) fun K hK => ?_
      refine wp_store_nm (l := z3) (l2 := s) hB hge6 _ _ rfl rfl rfl hG6 z3_nm hs ?_
      intro wS2 hG6S hwS2 hBS2
      replace hB := hBS2
      replace hG5S := hG5S.wrote hwS2 (by omega)
      refine hK.out _ _ hB ?_
      clear hK K
      try simp only [Act.put, putA, putB, putC]
      refine wpB_done (by kernel_rfl) ?_
      go_wp2_with fail
      go_meet
      exact ⟨g5, g6, r, s, rfl, rfl, hge5, hge6, hne56, hr, hs, hvr, hvs, hG5S, hG6S, hB⟩
     ·refine wp_alloc_nm hB rfl ?_
      intro g6 wA hG6 hge6 hgw6 hbA hBA
      replace hB := hBA
      try have hlt5 := hG5.lt
      try replace hG5 := hG5.kept hbA
      try replace hC := hC.kept hbA
      refine hK.out _ _ hB ?_
      clear hK K
      try simp only [Act.put, putA, putB, putC]
      refine wpB_do (i := 6) (o := ⟨some 5, .alloc 95, 0, "poly.go:106", #[], none⟩) (by kernel_rfl) rfl (by rfl) fun K hK => ?_
      refine wp_alloc_nm hB rfl ?_
      intro g5 wA hG5 hge5 hgw5 hbA hBA
      replace hB := hBA
      try have hlt6 := hG6.lt
      try replace hG6 := hG6.kept hbA
      try replace hC := hC.kept hbA
      refine hK.out _ _ hB ?_
      clear hK K
      try simp only [Act.put, putA, putB, putC]
      refine wpB_do (i := 8) (o := ⟨none, .store 95 (.tmp 5) (.tmp 14), 0, "poly.go:106", #[⟨6, .data⟩, ⟨2, .data⟩, ⟨5, .chain⟩, ⟨0, .phase⟩, ⟨1, .phase⟩, ⟨2, .phase⟩, ⟨3, .textOnly .lateStores⟩, ⟨4, .textOnly .lateStoresUnsure⟩, ⟨5, .textOnly .lateStoresUnsure⟩, ⟨6, .phase⟩, ⟨7, .phase⟩], none⟩) (by kernel_rfl) rfl (by rfl) fun K hK => ?_
      have hne56 : g5 ≠ g6 := by omega
      refine wp_store_nm (l := z3) (l2 := r) hB hge5 _ _ rfl rfl rfl hG5 z3_nm hr ?_
      intro wS hG5S hwS hBS
      replace hB := hBS
      replace hG6 := hG6.wrote hwS (by omega)
      refine hK.out _ _ hB ?_
      clear hK K
      try simp only [Act.put, putA, putB, putC]
      refine wpB_do (i := 9) (o := ⟨none, .store 95 (.tmp 6) (.tmp 17), 0, "poly.go:106", #[⟨7, .data⟩, ⟨5, .data⟩, ⟨8, .chain⟩, ⟨0, .phase⟩, ⟨1, .phase⟩, ⟨2, .phase⟩, ⟨3, .phase⟩, ⟨4, .phase⟩, ⟨5, .phase⟩, ⟨6, .phase⟩, ⟨7, .phase⟩, ⟨8, .phase⟩], none⟩) (by kernel_rfl) rfl (by rfl) fun K hK => ?_
      refine wp_store_nm (l := z3) (l2 := s) hB hge6 _ _ rfl rfl rfl hG6 z3_nm hs ?_
      intro wS2 hG6S hwS2 hBS2
      replace hB := hBS2
      replace hG5S := hG5S.wrote hwS2 (by omega)
      refine hK.out _ _ hB ?_
      clear hK K
      try simp only [Act.put, putA, putB, putC]
      refine wpB_done (by kernel_rfl) ?_
      go_wp2_with fail
      go_meet
      exact ⟨g5, g6, r, s, rfl, rfl, hge5, hge6, hne56, hr, hs, hvr, hvs, hG5S, hG6S, hB⟩
    ·refine wp_alloc_nm hB rfl ?_
     intro g5 wA hG5 hge5 hgw5 hbA hBA
     replace hB := hBA
     try have hlt6 := hG6.lt
     try replace hG6 := hG6.kept hbA
     try replace hC := hC.kept hbA
     refine hK.out _ _ hB ?_
     clear hK K
     try simp only [Act.put, putA, putB, putC]
     refine wpB_fork (i := 5) (j := 7) (oi := ⟨some 17, .call { callee := .value (.func 72), args := #[.tmp 16], argTypes := #[22] }, 95, "poly.go:106", #[⟨4, .data⟩, ⟨2, .chain⟩], none⟩) (oj := ⟨some 6, .alloc 95, 0, "poly.go:106", #[], none⟩) (by kernel_rfl) rfl rfl (by rfl) (by rfl) (fun K hK => ?_) (fun K hK => ?_)
     ·go_simp
      refine (numberOf_any _ (k.drop 16) _ (HS.out.kept hB) (by rw [List.length_drop, HK32.out]; decide)).mono ?_
      rintro e wq ⟨s, rfl, hs, hvs, bq⟩
      replace hB := stepB hB bq
      try replace hG5 := hG5.kept bq
      try replace hG6 := hG6.kept bq
      refine hK.out _ _ hB ?_
      clear hK K
      try simp only [Act.put, putA, putB, putC]
      refine wpB_do (i := 7) (o := ⟨some 6, .alloc 95, 0, "poly.go:106", #[], none⟩) (by kernel_rfl) rfl (by rfl) fun K hK => ?_
      refine wp_alloc_nm hB rfl ?_
      intro g6 wA hG6 hge6 hgw6 hbA hBA
      replace hB := hBA
      try have hlt5 := hG5.lt
      try replace hG5 := hG5.kept hbA
      try replace hC := hC.kept hbA
      refine hK.out _ _ hB ?_
      clear hK K
      try simp only [Act.put, putA, putB, putC]
      refine wpB_do (i := 8) (o := ⟨none, .store 95 (.tmp 5) (.tmp 14), 0, "poly.go:106", #[⟨6, .data⟩, ⟨2, .data⟩, ⟨5, .chain⟩, ⟨0, .phase⟩, ⟨1, .phase⟩, ⟨2, .phase⟩, ⟨3, .textOnly .lateStores⟩, ⟨4, .textOnly .lateStoresUnsure⟩, ⟨5, .textOnly .lateStoresUnsure⟩, ⟨6, .phase⟩, ⟨7, .phase⟩], none⟩) (by kernel_rfl) rfl (by rfl) fun K hK => ?_
      have hne56 : g5 ≠ g6 := by omega
      refine wp_store_nm (l := z3) (l2 := r) hB hge5 _ _ rfl rfl rfl hG5 z3_nm hr ?_
      intro wS hG5S hwS hBS
      replace hB := hBS
      replace hG6 := hG6.wrote hwS (by omega)
      refine hK.out _ _ hB ?_
      clear hK K
      try simp only [Act.put, putA, putB, putC]
      refine wpB_do (i := 9) (o := ⟨none, .store 95 (.tmp 6) (.tmp 17), 0, "poly.go:106", #[⟨7, .data⟩, ⟨5, .data⟩, ⟨8, .chain⟩, ⟨0, .phase⟩, ⟨1, .phase⟩, ⟨2, .phase⟩, ⟨3, .phase⟩, ⟨4, .phase⟩, ⟨5, .phase⟩, ⟨6, .phase⟩, ⟨7, .phase⟩, ⟨8, .phase⟩], none⟩) (by kernel_rfl) rfl (by rfl) fun K hK => ?_
      refine wp_store_nm (l := z3) (l2 := s) hB hge6 _ _ rfl rfl rfl hG6 z3_nm hs ?_
      intro wS2 hG6S hwS2 hBS2
      replace hB := hBS2
      replace hG5S := hG5S.wrote hwS2 (by omega)
      refine hK.out _ _ hB ?_
      clear hK K
      try simp only [Act.put, putA, putB, putC]
      refine wpB_done (by kernel_rfl) ?_
      go_wp2_with fail
      go_meet
      exact ⟨g5, g6, r, s, rfl, rfl, hge5, hge6, hne56, hr, hs, hvr, hvs, hG5S, hG6S, hB⟩
     ·refine wp_alloc_nm hB rfl ?_
      intro g6 wA hG6 hge6 hgw6 hbA hBA
      replace hB := hBA
      try have hlt5 := hG5.lt
      try replace hG5 := hG5.kept hbA
      try replace hC := hC.kept hbA
      refine hK.out _ _ hB ?_
      clear hK K
      try simp only [Act.put, putA, putB, putC]
      refine wpB_do (i := 5) (o := ⟨some 17, .call { callee := .value (.func 72), args := #[.tmp 16], argTypes := #[22] }, 95, "poly.go:106", #[⟨4, .data⟩, ⟨2, .chain⟩], none⟩) (by kernel_rfl) rfl (by rfl) fun K hK => ?_
      go_simp
      refine (numberOf_any _ (k.drop 16) _ (HS.out.kept hB) (by rw [List.length_drop, HK32.out]; decide)).mono ?_
      rintro e wq ⟨s, rfl, hs, hvs, bq⟩
      replace hB := stepB hB bq
      try replace hG5 := hG5.kept bq
      try replace hG6 := hG6.kept bq
      refine hK.out _ _ hB ?_
      clear hK K
      try simp only [Act.put, putA, putB, putC]
      refine wpB_do (i := 8) (o := ⟨none, .store 95 (.tmp 5) (.tmp 14), 0, "poly.go:106", #[⟨6, .data⟩, ⟨2, .data⟩, ⟨5, .chain⟩, ⟨0, .phase⟩, ⟨1, .phase⟩, ⟨2, .phase⟩, ⟨3, .textOnly .lateStores⟩, ⟨4, .textOnly .lateStoresUnsure⟩, ⟨5, .textOnly .lateStoresUnsure⟩, ⟨6, .phase⟩, ⟨7, .phase⟩], none⟩) (by kernel_rfl) rfl (by rfl) fun K hK => ?_
      have hne56 : g5 ≠ g6 := by omega
      refine wp_store_nm (l := z3) (l2 := r) hB hge5 _ _ rfl rfl rfl hG5 z3_nm hr ?_
      intro wS hG5S hwS hBS
      replace hB := hBS
      replace hG6 := hG6.wrote hwS (by omega)
      refine hK.out _ _ hB ?_
      clear hK K
      try simp only [Act.put, putA, putB, putC]
      refine wpB_do (i := 9) (o := ⟨none, .store 95 (.tmp 6) (.tmp 17), 0, "poly.go:106", #[⟨7, .data⟩, ⟨5, .data⟩, ⟨8, .chain⟩, ⟨0, .phase⟩, ⟨1, .phase⟩, ⟨2, .phase⟩, ⟨3, .phase⟩, ⟨4, .phase⟩, ⟨5, .phase⟩, ⟨6, .phase⟩, ⟨7, .phase⟩, ⟨8, .phase⟩], none⟩) (by kernel_rfl) rfl (by rfl) fun K hK => ?_
      refine wp_store_nm (l := z3) (l2 := s) hB hge6 _ _ rfl rfl rfl hG6 z3_nm hs ?_
      intro wS2 hG6S hwS2 hBS2
      replace hB := hBS2
      replace hG5S := hG5S.wrote hwS2 (by omega)
      refine hK.out _ _ hB ?_
      clear hK K
      try simp only [Act.put, putA, putB, putC]
      refine wpB_done (by kernel_rfl) ?_
      go_wp2_with fail
      go_meet
      exact ⟨g5, g6, r, s, rfl, rfl, hge5, hge6, hne56, hr, hs, hvr, hvs, hG5S, hG6S, hB⟩
    ·refine wp_alloc_nm hB rfl ?_
     intro g6 wA hG6 hge6 hgw6 hbA hBA
     replace hB := hBA
     try have hlt5 := hG5.lt
     try replace hG5 := hG5.kept hbA
     try replace hC := hC.kept hbA
     refine hK.out _ _ hB ?_
     clear hK K
     try simp only [Act.put, putA, putB, putC]
     refine wpB_fork (i := 5) (j := 6) (oi := ⟨some 17, .call { callee := .value (.func 72), args := #[.tmp 16], argTypes := #[22] }, 95, "poly.go:106", #[⟨4, .data⟩, ⟨2, .chain⟩], none⟩) (oj := ⟨some 5, .alloc 95, 0, "poly.go:106", #[], none⟩) (by kernel_rfl) rfl rfl (by rfl) (by rfl) (fun K hK => ?_) (fun K hK => ?_)
     ·go_simp
      refine (numberOf_any _ (k.drop 16) _ (HS.out.kept hB) (by rw [List.length_drop, HK32.out]; decide)).mono ?_
      rintro e wq ⟨s, rfl, hs, hvs, bq⟩
      replace hB := stepB hB bq
      try replace hG5 := hG5.kept bq
      try replace hG6 := hG6.kept bq
      refine hK.out _ _ hB ?_
      clear hK K
      try simp only [Act.put, putA, putB, putC]
      refine wpB_do (i := 6) (o := ⟨some 5, .alloc 95, 0, "poly.go:106", #[], none⟩) (by kernel_rfl) rfl (by rfl) fun K hK => ?_
      refine wp_alloc_nm hB rfl ?_
      intro g5 wA hG5 hge5 hgw5 hbA hBA
      replace hB := hBA
      try have hlt6 := hG6.lt
      try replace hG6 := hG6.kept hbA
      try replace hC := hC.kept hbA
      refine hK.out _ _ hB ?_
      clear hK K
      try simp only [Act.put, putA, putB, putC]
      refine wpB_do (i := 8) (o := ⟨none, .store 95 (.tmp 5) (.tmp 14), 0, "poly.go:106", #[⟨6, .data⟩, ⟨2, .data⟩, ⟨5, .chain⟩, ⟨0, .phase⟩, ⟨1, .phase⟩, ⟨2, .phase⟩, ⟨3, .textOnly .lateStores⟩, ⟨4, .textOnly .lateStoresUnsure⟩, ⟨5, .textOnly .lateStoresUnsure⟩, ⟨6, .phase⟩, ⟨7, .phase⟩], none⟩) (by kernel_rfl) rfl (by rfl) fun K hK => ?_
      have hne56 : g5 ≠ g6 := by omega
      refine wp_store_nm (l := z3) (l2 := r) hB hge5 _ _ rfl rfl rfl hG5 z3_nm hr ?_
      intro wS hG5S hwS hBS
      replace hB := hBS
      replace hG6 := hG6.wrote hwS (by omega)
      refine hK.out _ _ hB ?_
      clear hK K
      try simp only [Act.put, putA, putB, putC]
      refine wpB_do (i := 9) (o := ⟨none, .store 95 (.tmp 6) (.tmp 17), 0, "poly.go:106", #[⟨7, .data⟩, ⟨5, .data⟩, ⟨8, .chain⟩, ⟨0, .phase⟩, ⟨1, .phase⟩, ⟨2, .phase⟩, ⟨3, .phase⟩, ⟨4, .phase⟩, ⟨5, .phase⟩, ⟨6, .phase⟩, ⟨7, .phase⟩, ⟨8, .phase⟩], none⟩) (by kernel_rfl) rfl (by rfl) fun K hK => ?_
      refine wp_store_nm (l := z3) (l2 := s) hB hge6 _ _ rfl rfl rfl hG6 z3_nm hs ?_
      intro wS2 hG6S hwS2 hBS2
      replace hB := hBS2
      replace hG5S := hG5S.wrote hwS2 (by omega)
      refine hK.out _ _ hB ?_
      clear hK K
      try simp only [Act.put, putA, putB, putC]
      refine wpB_done (by kernel_rfl) ?_
      go_wp2_with fail
      go_meet
      exact ⟨g5, g6, r, s, rfl, rfl, hge5, hge6, hne56, hr, hs, hvr, hvs, hG5S, hG6S, hB⟩
     ·refine wp_alloc_nm hB rfl ?_
      intro g5 wA hG5 hge5 hgw5 hbA hBA
      replace hB := hBA
      try have hlt6 := hG6.lt
      try replace hG6 := hG6.kept hbA
      try replace hC := hC.kept hbA
      refine hK.out _ _ hB ?_
      clear hK K
      try simp only [Act.put, putA, putB, putC]
      refine wpB_do (i := 5) (o := ⟨some 17, .call { callee := .value (.func 72), args := #[.tmp 16], argTypes := #[22] }, 95, "poly.go:106", #[⟨4, .data⟩, ⟨2, .chain⟩], none⟩) (by kernel_rfl) rfl (by rfl) fun K hK => ?_
      go_simp
      refine (numberOf_any _ (k.drop 16) _ (HS.out.kept hB) (by rw [List.length_drop, HK32.out]; decide)).mono ?_
      rintro e wq ⟨s, rfl, hs, hvs, bq⟩
      replace hB := stepB hB bq
      try replace hG5 := hG5.kept bq
      try replace hG6 := hG6.kept bq
      refine hK.out _ _ hB ?_
      clear hK K
      try simp only [Act.put, putA, putB, putC]
      refine wpB_do (i := 8) (o := ⟨none, .store 95 (.tmp 5) (.tmp 14), 0, "poly.go:106", #[⟨6, .data⟩, ⟨2, .data⟩, ⟨5, .chain⟩, ⟨0, .phase⟩, ⟨1, .phase⟩, ⟨2, .phase⟩, ⟨3, .textOnly .lateStores⟩, ⟨4, .textOnly .lateStoresUnsure⟩, ⟨5, .textOnly .lateStoresUnsure⟩, ⟨6, .phase⟩, ⟨7, .phase⟩], none⟩) (by kernel_rfl) rfl (by rfl) fun K hK => ?_
      have hne56 : g5 ≠ g6 := by omega
      refine wp_store_nm (l := z3) (l2 := r) hB hge5 _ _ rfl rfl rfl hG5 z3_nm hr ?_
      intro wS hG5S hwS hBS
      replace hB := hBS
      replace hG6 := hG6.wrote hwS (by omega)
      refine hK.out _ _ hB ?_
      clear hK K
      try simp only [Act.put, putA, putB, putC]
      refine wpB_do (i := 9) (o := ⟨none, .store 95 (.tmp 6) (.tmp 17), 0, "poly.go:106", #[⟨7, .data⟩, ⟨5, .data⟩, ⟨8, .chain⟩, ⟨0, .phase⟩, ⟨1, .phase⟩, ⟨2, .phase⟩, ⟨3, .phase⟩, ⟨4, .phase⟩, ⟨5, .phase⟩, ⟨6, .phase⟩, ⟨7, .phase⟩, ⟨8, .phase⟩], none⟩) (by kernel_rfl) rfl (by rfl) fun K hK => ?_
      refine wp_store_nm (l := z3) (l2 := s) hB hge6 _ _ rfl rfl rfl hG6 z3_nm hs ?_
      intro wS2 hG6S hwS2 hBS2
      replace hB := hBS2
      replace hG5S := hG5S.wrote hwS2 (by omega)
      refine hK.out _ _ hB ?_
      clear hK K
      try simp only [Act.put, putA, putB, putC]
      refine wpB_done (by kernel_rfl) ?_
      go_wp2_with fail
      go_meet
      exact ⟨g5, g6, r, s, rfl, rfl, hge5, hge6, hne56, hr, hs, hvr, hvs, hG5S, hG6S, hB⟩
   ·refine wp_alloc_nm hB rfl ?_
    intro g5 wA hG5 hge5 hgw5 hbA hBA
    replace hB := hBA
    try have hlt6 := hG6.lt
    try replace hG6 := hG6.kept hbA
    try replace hC := hC.kept hbA
    refine hK.out _ _ hB ?_
    clear hK K
    try simp only [Act.put, putA, putB, putC]
    refine wpB_fork (i := 2) (j := 7) (oi := ⟨some 14, .call { callee := .value (.func 72), args := #[.tmp 13], argTypes := #[22] }, 95, "poly.go:106", #[⟨1, .data⟩, ⟨1, .chain⟩], none⟩) (oj := ⟨some 6, .alloc 95, 0, "poly.go:106", #[], none⟩) (by kernel_rfl) rfl rfl (by rfl) (by rfl) (fun K hK => ?_) (fun K hK => ?_)
    ·go_simp
     refine (numberOf_any _ (clP k) _ hC (by rw [clP_length]; decide)).mono ?_
     rintro e wq ⟨r, rfl, hr, hvr, bq⟩
     replace hB := stepB hB bq
     try replace hG5 := hG5.kept bq
     try replace hG6 := hG6.kept bq
     refine hK.out _ _ hB ?_
     clear hK K
     try simp only [Act.put, putA, putB, putC]
     refine wpB_fork (i := 5) (j := 7) (oi := ⟨some 17, .call { callee := .value (.func 72), args := #[.tmp 16], argTypes := #[22] }, 95, "poly.go:106", #[⟨4, .data⟩, ⟨2, .chain⟩], none⟩) (oj := ⟨some 6, .alloc 95, 0, "poly.go:106", #[], none⟩) (by kernel_rfl) rfl rfl (by rfl) (by rfl) (fun K hK => ?_) (fun K hK => ?_)
     ·go_simp
      refine (numberOf_any _ (k.drop 16) _ (HS.out.kept hB) (by rw [List.length_drop, HK32.out]; decide)).mono ?_
      rintro e wq ⟨s, rfl, hs, hvs, bq⟩
      replace hB := stepB hB bq
      try replace hG5 := hG5.kept bq
      try replace hG6 := hG6.kept bq
      refine hK.out _ _ hB ?_
      clear hK K
      try simp only [Act.put, putA, putB, putC]
      refine wpB_do (i := 7) (o := ⟨some 6, .alloc 95, 0, "poly.go:106", #[], none⟩) (by kernel_rfl) rfl (by rfl) fun K hK => ?_
      refine wp_alloc_nm hB rfl ?_
      intro g6 wA hG6 hge6 hgw6 hbA hBA
      replace hB := hBA
      try have hlt5 := hG5.lt
      try replace hG5 := hG5.kept hbA
      try replace hC := hC.kept hbA
      refine hK.out _ _ hB ?_
      clear hK K
      try simp only [Act.put, putA, putB, putC]
      refine wpB_do (i := 8) (o := ⟨none, .store 95 (.tmp 5) (.tmp 14), 0, "poly.go:106", #[⟨6, .data⟩, ⟨2, .data⟩, ⟨5, .chain⟩, ⟨0, .phase⟩, ⟨1, .phase⟩, ⟨2, .phase⟩, ⟨3, .textOnly .lateStores⟩, ⟨4, .textOnly .lateStoresUnsure⟩, ⟨5, .textOnly .lateStoresUnsure⟩, ⟨6, .phase⟩, ⟨7, .phase⟩], none⟩) (by kernel_rfl) rfl (by rfl) fun K hK => ?_
      have hne56 : g5 ≠ g6 := by omega
      refine wp_store_nm (l := z3) (l2 := r) hB hge5 _ _ rfl rfl rfl hG5 z3_nm hr ?_
      intro wS hG5S hwS hBS
      replace hB := hBS
      replace hG6 := hG6.wrote hwS (by omega)
      refine hK.out _ _ hB ?_
      clear hK K
      try simp only [Act.put, putA, putB, putC]
      refine wpB_do (i := 9) (o := ⟨none, .store 95 (.tmp 6) (.tmp 17), 0, "poly.go:106", #[⟨7, .data⟩, ⟨5, .data⟩, ⟨8, .chain⟩, ⟨0, .phase⟩, ⟨1, .phase⟩, ⟨2, .phase⟩, ⟨3, .phase⟩, ⟨4, .phase⟩, ⟨5, .phase⟩, ⟨6, .phase⟩, ⟨7, .phase⟩, ⟨8, .phase⟩], none⟩) (by kernel_rfl) rfl (by rfl) fun K hK => ?_
      refine wp_store_nm (l := z3) (l2 := s) hB hge6 _ _ rfl rfl rfl hG6 z3_nm hs ?_
      intro wS2 hG6S hwS2 hBS2
      replace hB := hBS2
      replace hG5S := hG5S.wrote hwS2 (by omega)
      refine hK.out _ _ hB ?_
      clear hK K
      try simp only [Act.put, putA, putB, putC]
      refine wpB_done (by kernel_rfl) ?_
      go_wp2_with fail
      go_meet
      exact ⟨g5, g6, r, s, rfl, rfl, hge5, hge6, hne56, hr, hs, hvr, hvs, hG5S, hG6S, hB⟩
     ·refine wp_alloc_nm hB rfl ?_
      intro g6 wA hG6 hge6 hgw6 hbA hBA
      replace hB := hBA
      try have hlt5 := hG5.lt
      try replace hG5 := hG5.kept hbA
      try replace hC := hC.kept hbA
      refine hK.out _ _ hB ?_
      clear hK K
      try simp only [Act.put, putA, putB, putC]
      refine wpB_do (i := 5) (o := ⟨some 17, .call { callee := .value (.func 72), args := #[.tmp 16], argTypes := #[22] }, 95, "poly.go:106", #[⟨4, .data⟩, ⟨2, .chain⟩], none⟩) (by kernel_rfl) rfl (by rfl) fun K hK => ?_
      go_simp
      refine (numberOf_any _ (k.drop 16) _ (HS.out.kept hB) (by rw [List.length_drop, HK32.out]; decide)).mono ?_
      rintro e wq ⟨s, rfl, hs, hvs, bq⟩
      replace hB := stepB hB bq
      try replace hG5 := hG5.kept bq
      try replace hG6 := hG6.kept bq
      refine hK.out _ _ hB ?_
      clear hK K
      try simp only [Act.put, putA, putB, putC]
      refine wpB_do (i := 8) (o := ⟨none, .store 95 (.tmp 5) (.tmp 14), 0, "poly.go:106", #[⟨6, .data⟩, ⟨2, .data⟩, ⟨5, .chain⟩, ⟨0, .phase⟩, ⟨1, .phase⟩, ⟨2, .phase⟩, ⟨3, .textOnly .lateStores⟩, ⟨4, .textOnly .lateStoresUnsure⟩, ⟨5, .textOnly .lateStoresUnsure⟩, ⟨6, .phase⟩, ⟨7, .phase⟩], none⟩) (by kernel_rfl) rfl (by rfl) fun K hK => ?_
      have hne56 : g5 ≠ g6 := by omega
      refine wp_store_nm (l := z3) (l2 := r) hB hge5 _ _ rfl rfl rfl hG5 z3_nm hr ?_
      intro wS hG5S hwS hBS
      replace hB := hBS
      replace hG6 := hG6.wrote hwS (by omega)
      refine hK.out _ _ hB ?_
      clear hK K
      try simp only [Act.put, putA, putB, putC]
      refine wpB_do (i := 9) (o := ⟨none, .store 95 (.tmp 6) (.tmp 17), 0, "poly.go:106", #[⟨7, .data⟩, ⟨5, .data⟩, ⟨8, .chain⟩, ⟨0, .phase⟩, ⟨1, .phase⟩, ⟨2, .phase⟩, ⟨3, .phase⟩, ⟨4, .phase⟩, ⟨5, .phase⟩, ⟨6, .phase⟩, ⟨7, .phase⟩, ⟨8, .phase⟩], none⟩) (by kernel_rfl) rfl (by rfl) fun K hK => ?_
      refine wp_store_nm (l := z3) (l2 := s) hB hge6 _ _ rfl rfl rfl hG6 z3_nm hs ?_
      intro wS2 hG6S hwS2 hBS2
      replace hB := hBS2
      replace hG5S := hG5S.wrote hwS2 (by omega)
      refine hK.out _ _ hB ?_
      clear hK K
      try simp only [Act.put, putA, putB, putC]
      refine wpB_done (by kernel_rfl) ?_
      go_wp2_with fail
      go_meet
      exact ⟨g5, g6, r, s, rfl, rfl, hge5, hge6, hne56, hr, hs, hvr, hvs, hG5S, hG6S, hB⟩
    ·refine wp_alloc_nm hB rfl ?_
     intro g6 wA hG6 hge6 hgw6 hbA hBA
     replace hB := hBA
     try have hlt5 := hG5.lt
     try replace hG5 := hG5.kept hbA
     try replace hC := hC.kept hbA
     refine hK.out _ _ hB ?_
     clear hK K
     try simp only [Act.put, putA, putB, putC]
     refine wpB_do (i := 2) (o := ⟨some 14, .call { callee := .value (.func 72), args := #[.tmp 13], argTypes := #[22] }, 95, "poly.go:106", #[⟨1, .data⟩, ⟨1, .chain⟩], none⟩) (by kernel_rfl) rfl (by rfl) fun K hK => ?_
     go_simp
     refine (numberOf_any _ (clP k) _ hC (by rw [clP_length]; decide)).mono ?_
     rintro e wq ⟨r, rfl, hr, hvr, bq⟩
     replace hB := stepB hB bq
     try replace hG5 := hG5.kept bq
     try replace hG6 := hG6.kept bq
     refine hK.out _ _ hB ?_
     clear hK K
     try simp only [Act.put, putA, putB, putC]
     refine wpB_do (i := 5) (o := ⟨some 17, .call { callee := .value (.func 72), args := #[.tmp 16], argTypes := #[22] }, 95, "poly.go:106", #[⟨4, .data⟩, ⟨2, .chain⟩], none⟩) (by kernel_rfl) rfl (by rfl) fun K hK => ?_
     go_simp
     refine (numberOf_any _ (k.drop 16) _ (HS.out.kept hB) (by rw [List.length_drop, HK32.out]; decide)).mono ?_
     rintro e wq ⟨s, rfl, hs, hvs, bq⟩
     replace hB := stepB hB bq
     try replace hG5 := hG5.kept bq
     try replace hG6 := hG6.kept bq
     refine hK.out _ _ hB ?_
     clear hK K
     try simp only [Act.put, putA, putB, putC]
     refine wpB_do (i := 8) (o := ⟨none, .store 95 (.tmp 5) (.tmp 14), 0, "poly.go:106", #[⟨6, .data⟩, ⟨2, .data⟩, ⟨5, .chain⟩, ⟨0, .phase⟩, ⟨1, .phase⟩, ⟨2, .phase⟩, ⟨3, .textOnly .lateStores⟩, ⟨4, .textOnly .lateStoresUnsure⟩, ⟨5, .textOnly .lateStoresUnsure⟩, ⟨6, .phase⟩, ⟨7, .phase⟩], none⟩) (by kernel_rfl) rfl (by rfl) fun K hK => ?_
     have hne56 : g5 ≠ g6 := by omega
     refine wp_store_nm (l := z3) (l2 := r) hB hge5 _ _ rfl rfl rfl hG5 z3_nm hr ?_
     intro wS hG5S hwS hBS
     replace hB := hBS
     replace hG6 := hG6.wrote hwS (by omega)
     refine hK.out _ _ hB ?_
     clear hK K
     try simp only [Act.put, putA, putB, putC]
     refine wpB_do (i := 9) (o := ⟨none, .store 95 (.tmp 6) (.tmp 17), 0, "poly.go:106", #[⟨7, .data⟩, ⟨5, .data⟩, ⟨8, .chain⟩, ⟨0, .phase⟩, ⟨1, .phase⟩, ⟨2, .phase⟩, ⟨3, .phase⟩, ⟨4, .phase⟩, ⟨5, .phase⟩, ⟨6, .phase⟩, ⟨7, .phase⟩, ⟨8, .phase⟩], none⟩) (by kernel_rfl) rfl (by rfl) fun K hK => ?_
     refine wp_store_nm (l := z3) (l2 := s) hB hge6 _ _ rfl rfl rfl hG6 z3_nm hs ?_
     intro wS2 hG6S hwS2 hBS2
     replace hB := hBS2
     replace hG5S := hG5S.wrote hwS2 (by omega)
     refine hK.out _ _ hB ?_
     clear hK K
     try simp only [Act.put, putA, putB, putC]
     refine wpB_done (by kernel_rfl) ?_
     go_wp2_with fail
     go_meet
     exact ⟨g5, g6, r, s, rfl, rfl, hge5, hge6, hne56, hr, hs, hvr, hvs, hG5S, hG6S, hB⟩
   ·refine wp_alloc_nm hB rfl ?_
    intro g6 wA hG6 hge6 hgw6 hbA hBA
    replace hB := hBA
    try have hlt5 := hG5.lt
    try replace hG5 := hG5.kept hbA
    try replace hC := hC.kept hbA
    refine hK.out _ _ hB ?_
    clear hK K
    try simp only [Act.put, putA, putB, putC]
    refine wpB_fork (i := 2) (j := 6) (oi := ⟨some 14, .call { callee := .value (.func 72), args := #[.tmp 13], argTypes := #[22] }, 95, "poly.go:106", #[⟨1, .data⟩, ⟨1, .chain⟩], none⟩) (oj := ⟨some 5, .alloc 95, 0, "poly.go:106", #[], none⟩) (by kernel_rfl) rfl rfl (by rfl) (by rfl) (fun K hK => ?_) (fun K hK => ?_)
    ·go_simp
     refine (numberOf_any _ (clP k) _ hC (by rw [clP_length]; decide)).mono ?_
     rintro e wq ⟨r, rfl, hr, hvr, bq⟩
     replace hB := stepB hB bq
     try replace hG5 := hG5.kept bq
     try replace hG6 := hG6.kept bq
     refine hK.out _ _ hB ?_
     clear hK K
     try simp only [Act.put, putA, putB, putC]
     refine wpB_fork (i := 5) (j := 6) (oi := ⟨some 17, .call { callee := .value (.func 72), args := #[.tmp 16], argTypes := #[22] }, 95, "poly.go:106", #[⟨4, .data⟩, ⟨2, .chain⟩], none⟩) (oj := ⟨some 5, .alloc 95, 0, "poly.go:106", #[], none⟩) (by kernel_rfl) rfl rfl (by rfl) (by rfl) (fun K hK => ?_) (fun K hK => ?_)
     ·go_simp
      refine (numberOf_any _ (k.drop 16) _ (HS.out.kept hB) (by rw [List.length_drop, HK32.out]; decide)).mono ?_
      rintro e wq ⟨s, rfl, hs, hvs, bq⟩
      replace hB := stepB hB bq
      try replace hG5 := hG5.kept bq
      try replace hG6 := hG6.kept bq
      refine hK.out _ _ hB ?_
      clear hK K
      try simp only [Act.put, putA, putB, putC]
      refine wpB_do (i := 6) (o := ⟨some 5, .alloc 95, 0, "poly.go:106", #[], none⟩) (by kernel_rfl) rfl (by rfl) fun K hK => ?_
      refine wp_alloc_nm hB rfl ?_
      intro g5 wA hG5 hge5 hgw5 hbA hBA
      replace hB := hBA
      try have hlt6 := hG6.lt
      try replace hG6 := hG6.kept hbA
      try replace hC := hC.kept hbA
      refine hK.out _ _ hB ?_
      clear hK K
      try simp only [Act.put, putA, putB, putC]
      refine wpB_do (i := 8) (o := ⟨none, .store 95 (.tmp 5) (.tmp 14), 0, "poly.go:106", #[⟨6, .data⟩, ⟨2, .data⟩, ⟨5, .chain⟩, ⟨0, .phase⟩, ⟨1, .phase⟩, ⟨2, .phase⟩, ⟨3, .textOnly .lateStores⟩, ⟨4, .textOnly .lateStoresUnsure⟩, ⟨5, .textOnly .lateStoresUnsure⟩, ⟨6, .phase⟩, ⟨7, .phase⟩], none⟩) (by kernel_rfl) rfl (by rfl) fun K hK => ?_
      have hne56 : g5 ≠ g6 := by omega
      refine wp_store_nm (l := z3) (l2 := r) hB hge5 _ _ rfl rfl rfl hG5 z3_nm hr ?_
      intro wS hG5S hwS hBS
      replace hB := hBS
      replace hG6 := hG6.wrote hwS (by omega)
      refine hK.out _ _ hB ?_
      clear hK K
      try simp only [Act.put, putA, putB, putC]
      refine wpB_do (i := 9) (o := ⟨none, .store 95 (.tmp 6) (.tmp 17), 0, "poly.go:106", #[⟨7, .data⟩, ⟨5, .data⟩, ⟨8, .chain⟩, ⟨0, .phase⟩, ⟨1, .phase⟩, ⟨2, .phase⟩, ⟨3, .phase⟩, ⟨4, .phase⟩, ⟨5, .phase⟩, ⟨6, .phase⟩, ⟨7, .phase⟩, ⟨8, .phase⟩], none⟩) (by kernel_rfl) rfl (by rfl) fun K hK => ?_
      refine wp_store_nm (l := z3) (l2 := s) hB hge6 _ _ rfl rfl rfl hG6 z3_nm hs ?_
      intro wS2 hG6S hwS2 hBS2
      replace hB := hBS2
      replace hG5S := hG5S.wrote hwS2 (by omega)
      refine hK.out _ _ hB ?_
      clear hK K
      try simp only [Act.put, putA, putB, putC]
      refine wpB_done (by kernel_rfl) ?_
      go_wp2_with fail
      go_meet
      exact ⟨g5, g6, r, s, rfl, rfl, hge5, hge6, hne56, hr, hs, hvr, hvs, hG5S, hG6S, hB⟩
     ·refine wp_alloc_nm hB rfl ?_
      intro g5 wA hG5 hge5 hgw5 hbA hBA
      replace hB := hBA
      try have hlt6 := hG6.lt
      try replace hG6 := hG6.kept hbA
      try replace hC := hC.kept hbA
      refine hK.out _ _ hB ?_
      clear hK K
      try simp only [Act.put, putA, putB, putC]
      refine wpB_do (i := 5) (o := ⟨some 17, .call { callee := .value (.func 72), args := #[.tmp 16], argTypes := #[22] }, 95, "poly.go:106", #[⟨4, .data⟩, ⟨2, .chain⟩], none⟩) (by kernel_rfl) rfl (by rfl) fun K hK => ?_
      go_simp
      refine (numberOf_any _ (k.drop 16) _ (HS.out.kept hB) (by rw [List.length_drop, HK32.out]; decide)).mono ?_
      rintro e wq ⟨s, rfl, hs, hvs, bq⟩
      replace hB := stepB hB bq
      try replace hG5 := hG5.kept bq
      try replace hG6 := hG6.kept bq
      refine hK.out _ _ hB ?_
      clear hK K
      try simp only [Act.put, putA, putB, putC]
      refine wpB_do (i := 8) (o := ⟨none, .store 95 (.tmp 5) (.tmp 14), 0, "poly.go:106", #[⟨6, .data⟩, ⟨2, .data⟩, ⟨5, .chain⟩, ⟨0, .phase⟩, ⟨1, .phase⟩, ⟨2, .phase⟩, ⟨3, .textOnly .lateStores⟩, ⟨4, .textOnly .lateStoresUnsure⟩, ⟨5, .textOnly .lateStoresUnsure⟩, ⟨6, .phase⟩, ⟨7, .phase⟩], none⟩) (by kernel_rfl) rfl (by rfl) fun K hK => ?_
      have hne56 : g5 ≠ g6 := by omega
      refine wp_store_nm (l := z3) (l2 := r) hB hge5 _ _ rfl rfl rfl hG5 z3_nm hr ?_
      intro wS hG5S hwS hBS
      replace hB := hBS
      replace hG6 := hG6.wrote hwS (by omega)
      refine hK.out _ _ hB ?_
      clear hK K
      try simp only [Act.put, putA, putB, putC]
      refine wpB_do (i := 9) (o := ⟨none, .store 95 (.tmp 6) (.tmp 17), 0, "poly.go:106", #[⟨7, .data⟩, ⟨5, .data⟩, ⟨8, .chain⟩, ⟨0, .phase⟩, ⟨1, .phase⟩, ⟨2, .phase⟩, ⟨3, .phase⟩, ⟨4, .phase⟩, ⟨5, .phase⟩, ⟨6, .phase⟩, ⟨7, .phase⟩, ⟨8, .phase⟩], none⟩) (by kernel_rfl) rfl (by rfl) fun K hK => ?_
      refine wp_store_nm (l := z3) (l2 := s) hB hge6 _ _ rfl rfl rfl hG6 z3_nm hs ?_
      intro wS2 hG6S hwS2 hBS2
      replace hB := hBS2
      replace hG5S := hG5S.wrote hwS2 (by omega)
      refine hK.out _ _ hB ?_
      clear hK K
      try simp only [Act.put, putA, putB, putC]
      refine wpB_done (by kernel_rfl) ?_
      go_wp2_with fail
      go_meet
      exact ⟨g5, g6, r, s, rfl, rfl, hge5, hge6, hne56, hr, hs, hvr, hvs, hG5S, hG6S, hB⟩
    ·refine wp_alloc_nm hB rfl ?_
     intro g5 wA hG5 hge5 hgw5 hbA hBA
     replace hB := hBA
     try have hlt6 := hG6.lt
     try replace hG6 := hG6.kept hbA
     try replace hC := hC.kept hbA
     refine hK.out _ _ hB ?_
     clear hK K
     try simp only [Act.put, putA, putB, putC]
     refine wpB_do (i := 2) (o := ⟨some 14, .call { callee := .value (.func 72), args := #[.tmp 13], argTypes := #[22] }, 95, "poly.go:106", #[⟨1, .data⟩, ⟨1, .chain⟩], none⟩) (by kernel_rfl) rfl (by rfl) fun K hK => ?_
     go_simp
     refine (numberOf_any _ (clP k) _ hC (by rw [clP_length]; decide)).mono ?_
     rintro e wq ⟨r, rfl, hr, hvr, bq⟩
     replace hB := stepB hB bq
     try replace hG5 := hG5.kept bq
     try replace hG6 := hG6.kept bq
     refine hK.out _ _ hB ?_
     clear hK K
     try simp only [Act.put, putA, putB, putC]
     refine wpB_do (i := 5) (o := ⟨some 17, .call { callee := .value (.func 72), args := #[.tmp 16], argTypes := #[22] }, 95, "poly.go:106", #[⟨4, .data⟩, ⟨2, .chain⟩], none⟩) (by kernel_rfl) rfl (by rfl) fun K hK => ?_
     go_simp
     refine (numberOf_any _ (k.drop 16) _ (HS.out.kept hB) (by rw [List.length_drop, HK32.out]; decide)).mono ?_
     rintro e wq ⟨s, rfl, hs, hvs, bq⟩
     replace hB := stepB hB bq
     try replace hG5 := hG5.kept bq
     try replace hG6 := hG6.kept bq
     refine hK.out _ _ hB ?_
     clear hK K
     try simp only [Act.put, putA, putB, putC]
     refine wpB_do (i := 8) (o := ⟨none, .store 95 (.tmp 5) (.tmp 14), 0, "poly.go:106", #[⟨6, .data⟩, ⟨2, .data⟩, ⟨5, .chain⟩, ⟨0, .phase⟩, ⟨1, .phase⟩, ⟨2, .phase⟩, ⟨3, .textOnly .lateStores⟩, ⟨4, .textOnly .lateStoresUnsure⟩, ⟨5, .textOnly .lateStoresUnsure⟩, ⟨6, .phase⟩, ⟨7, .phase⟩], none⟩) (by kernel_rfl) rfl (by rfl) fun K hK => ?_
     have hne56 : g5 ≠ g6 := by omega
     refine wp_store_nm (l := z3) (l2 := r) hB hge5 _ _ rfl rfl rfl hG5 z3_nm hr ?_
     intro wS hG5S hwS hBS
     replace hB := hBS
     replace hG6 := hG6.wrote hwS (by omega)
     refine hK.out _ _ hB ?_
     clear hK K
     try simp only [Act.put, putA, putB, putC]
     refine wpB_do (i := 9) (o := ⟨none, .store 95 (.tmp 6) (.tmp 17), 0, "poly.go:106", #[⟨7, .data⟩, ⟨5, .data⟩, ⟨8, .chain⟩, ⟨0, .phase⟩, ⟨1, .phase⟩, ⟨2, .phase⟩, ⟨3, .phase⟩, ⟨4, .phase⟩, ⟨5, .phase⟩, ⟨6, .phase⟩, ⟨7, .phase⟩, ⟨8, .phase⟩], none⟩) (by kernel_rfl) rfl (by rfl) fun K hK => ?_
     refine wp_store_nm (l := z3) (l2 := s) hB hge6 _ _ rfl rfl rfl hG6 z3_nm hs ?_
     intro wS2 hG6S hwS2 hBS2
     replace hB := hBS2
     replace hG5S := hG5S.wrote hwS2 (by omega)
     refine hK.out _ _ hB ?_
     clear hK K
     try simp only [Act.put, putA, putB, putC]
     refine wpB_done (by kernel_rfl) ?_
     go_wp2_with fail
     go_meet
     exact ⟨g5, g6, r, s, rfl, rfl, hge5, hge6, hne56, hr, hs, hvr, hvs, hG5S, hG6S, hB⟩
  ·refine wp_alloc_nm hB rfl ?_
   intro g5 wA hG5 hge5 hgw5 hbA hBA
   replace hB := hBA
   try have hlt6 := hG6.lt
   try replace hG6 := hG6.kept hbA
   try replace hC := hC.kept hbA
   refine hK.out _ _ hB ?_
   clear hK K
   try simp only [Act.put, putA, putB, putC]
   refine wpB_fork (i := 1) (j := 7) (oi := ⟨some 13, .call { callee := .value (.func 73), args := #[.tmp 12], argTypes := #[22] }, 22, "poly.go:106", #[⟨0, .data⟩], none⟩) (oj := ⟨some 6, .alloc 95, 0, "poly.go:106", #[], none⟩) (by kernel_rfl) rfl rfl (by rfl) (by rfl) (fun K hK => ?_) (fun K hK => ?_)
   ·go_simp
    refine (pclamp_any _ k _ (HT.out.kept hB) (HK.out.kept hB) HK32.out).mono ?_
    rintro e wq ⟨vC, rfl, hN1⟩
    have hC := hN1.rd
    replace hB := stepB hB hN1.2
    try replace hG5 := hG5.kept hN1.2
    try replace hG6 := hG6.kept hN1.2
    refine hK.out _ _ hB ?_
    clear hK K
    try simp only [Act.put, putA, putB, putC]
    refine wpB_fork (i := 2) (j := 7) (oi := ⟨some 14, .call { callee := .value (.func 72), args := #[.tmp 13], argTypes := #[22] }, 95, "poly.go:106", #[⟨1, .data⟩, ⟨1, .chain⟩], none⟩) (oj := ⟨some 6, .alloc 95, 0, "poly.go:106", #[], none⟩) (by kernel_rfl) rfl rfl (by rfl) (by rfl) (fun K hK => ?_) (fun K hK => ?_)
    ·go_simp
     refine (numberOf_any _ (clP k) _ hC (by rw [clP_length]; decide)).mono ?_
     rintro e wq ⟨r, rfl, hr, hvr, bq⟩
     replace hB := stepB hB bq
     try replace hG5 := hG5.kept bq
     try replace hG6 := hG6.kept bq
     refine hK.out _ _ hB ?_
     clear hK K
     try simp only [Act.put, putA, putB, putC]
     refine wpB_fork (i := 5) (j := 7) (oi := ⟨some 17, .call { callee := .value (.func 72), args := #[.tmp 16], argTypes := #[22] }, 95, "poly.go:106", #[⟨4, .data⟩, ⟨2, .chain⟩], none⟩) (oj := ⟨some 6, .alloc 95, 0, "poly.go:106", #[], none⟩) (by kernel_rfl) rfl rfl (by rfl) (by rfl) (fun K hK => ?_) (fun K hK => ?_)
     ·go_simp
      refine (numberOf_any _ (k.drop 16) _ (HS.out.kept hB) (by rw [List.length_drop, HK32.out]; decide)).mono ?_
      rintro e wq ⟨s, rfl, hs, hvs, bq⟩
      replace hB := stepB hB bq
      try replace hG5 := hG5.kept bq
      try replace hG6 := hG6.kept bq
      refine hK.out _ _ hB ?_
      clear hK K
      try simp only [Act.put, putA, putB, putC]
      refine wpB_do (i := 7) (o := ⟨some 6, .alloc 95, 0, "poly.go:106", #[], none⟩) (by kernel_rfl) rfl (by rfl) fun K hK => ?_
      refine wp_alloc_nm hB rfl ?_
      intro g6 wA hG6 hge6 hgw6 hbA hBA
      replace hB := hBA
      try have hlt5 := hG5.lt
      try replace hG5 := hG5.kept hbA
      try replace hC := hC.kept hbA
      refine hK.out _ _ hB ?_
      clear hK K
      try simp only [Act.put, putA, putB, putC]
      refine wpB_do (i := 8) (o := ⟨none, .store 95 (.tmp 5) (.tmp 14), 0, "poly.go:106", #[⟨6, .data⟩, ⟨2, .data⟩, ⟨5, .chain⟩, ⟨0, .phase⟩, ⟨1, .phase⟩, ⟨2, .phase⟩, ⟨3, .textOnly .lateStores⟩, ⟨4, .textOnly .lateStoresUnsure⟩, ⟨5, .textOnly .lateStoresUnsure⟩, ⟨6, .phase⟩, ⟨7, .phase⟩], none⟩) (by kernel_rfl) rfl (by rfl) fun K hK => ?_
      have hne56 : g5 ≠ g6 := by omega
      refine wp_store_nm (l := z3) (l2 := r) hB hge5 _ _ rfl rfl rfl hG5 z3_nm hr ?_
      intro wS hG5S hwS hBS
      replace hB := hBS
      replace hG6 := hG6.wrote hwS (by omega)
      refine hK.out _ _ hB ?_
      clear hK K
      try simp only [Act.put, putA, putB, putC]
      refine wpB_do (i := 9) (o := ⟨none, .store 95 (.tmp 6) (.tmp 17), 0, "poly.go:106", #[⟨7, .data⟩, ⟨5, .data⟩, ⟨8, .chain⟩, ⟨0, .phase⟩, ⟨1, .phase⟩, ⟨2, .phase⟩, ⟨3, .phase⟩, ⟨4, .phase⟩, ⟨5, .phase⟩, ⟨6, .phase⟩, ⟨7, .phase⟩, ⟨8, .phase⟩], none⟩) (by kernel_rfl) rfl (by rfl) fun K hK => ?_
      refine wp_store_nm (l := z3) (l2 := s) hB hge6 _ _ rfl rfl rfl hG6 z3_nm hs ?_
      intro wS2 hG6S hwS2 hBS2
      replace hB := hBS2
      replace hG5S := hG5S.wrote hwS2 (by omega)
      refine hK.out _ _ hB ?_
      clear hK K
      try simp only [Act.put, putA, putB, putC]
      refine wpB_done (by kernel_rfl) ?_
      go_wp2_with fail
      go_meet
      exact ⟨g5, g6, r, s, rfl, rfl, hge5, hge6, hne56, hr, hs, hvr, hvs, hG5S, hG6S, hB⟩
     ·refine wp_alloc_nm hB rfl ?_
      intro g6 wA hG6 hge6 hgw6 hbA hBA
      replace hB := hBA
      try have hlt5 := hG5.lt
      try replace hG5 := hG5.kept hbA
      try replace hC := hC.kept hbA
      refine hK.out _ _ hB ?_
      clear hK K
      try simp only [Act.put, putA, putB, putC]
      refine wpB_do (i := 5) (o := ⟨some 17, .call { callee := .value (.func 72), args := #[.tmp 16], argTypes := #[22] }, 95, "poly.go:106", #[⟨4, .data⟩, ⟨2, .chain⟩], none⟩) (by kernel_rfl) rfl (by rfl) fun K hK => ?_
      go_simp
      refine (numberOf_any _ (k.drop 16) _ (HS.out.kept hB) (by rw [List.length_drop, HK32.out]; decide)).mono ?_
      rintro e wq ⟨s, rfl, hs, hvs, bq⟩
      replace hB := stepB hB bq
      try replace hG5 := hG5.kept bq
      try replace hG6 := hG6.kept bq
      refine hK.out _ _ hB ?_
      clear hK K
      try simp only [Act.put, putA, putB, putC]
      refine wpB_do (i := 8) (o := ⟨none, .store 95 (.tmp 5) (.tmp 14), 0, "poly.go:106", #[⟨6, .data⟩, ⟨2, .data⟩, ⟨5, .chain⟩, ⟨0, .phase⟩, ⟨1, .phase⟩, ⟨2, .phase⟩, ⟨3, .textOnly .lateStores⟩, ⟨4, .textOnly .lateStoresUnsure⟩, ⟨5, .textOnly .lateStoresUnsure⟩, ⟨6, .phase⟩, ⟨7, .phase⟩], none⟩) (by kernel_rfl) rfl (by rfl) fun K hK => ?_
      have hne56 : g5 ≠ g6 := by omega
      refine wp_store_nm (l := z3) (l2 := r) hB hge5 _ _ rfl rfl rfl hG5 z3_nm hr ?_
      intro wS hG5S hwS hBS
      replace hB := hBS
      replace hG6 := hG6.wrote hwS (by omega)
      refine hK.out _ _ hB ?_
      clear hK K
      try simp only [Act.put, putA, putB, putC]
      refine wpB_do (i := 9) (o := ⟨none, .store 95 (.tmp 6) (.tmp 17), 0, "poly.go:106", #[⟨7, .data⟩, ⟨5, .data⟩, ⟨8, .chain⟩, ⟨0, .phase⟩, ⟨1, .phase⟩, ⟨2, .phase⟩, ⟨3, .phase⟩, ⟨4, .phase⟩, ⟨5, .phase⟩, ⟨6, .phase⟩, ⟨7, .phase⟩, ⟨8, .phase⟩], none⟩) (by kernel_rfl) rfl (by rfl) fun K hK => ?_
      refine wp_store_nm (l := z3) (l2 := s) hB hge6 _ _ rfl rfl rfl hG6 z3_nm hs ?_
      intro wS2 hG6S hwS2 hBS2
      replace hB := hBS2
      replace hG5S := hG5S.wrote hwS2 (by omega)
      refine hK.out _ _ hB ?_
      clear hK K
      try simp only [Act.put, putA, putB, putC]
      refine wpB_done (by kernel_rfl) ?_
      go_wp2_with fail
      go_meet
      exact ⟨g5, g6, r, s, rfl, rfl, hge5, hge6, hne56, hr, hs, hvr, hvs, hG5S, hG6S, hB⟩
    ·refine wp_alloc_nm hB rfl ?_
     intro g6 wA hG6 hge6 hgw6 hbA hBA
     replace hB := hBA
     try have hlt5 := hG5.lt
     try replace hG5 := hG5.kept hbA
     try replace hC := hC.kept hbA
     refine hK.out _ _ hB ?_
     clear hK K
     try simp only [Act.put, putA, putB, putC]
     refine wpB_do (i := 2) (o := ⟨some 14, .call { callee := .value (.func 72), args := #[.tmp 13], argTypes := #[22] }, 95, "poly.go:106", #[⟨1, .data⟩, ⟨1, .chain⟩], none⟩) (by kernel_rfl) rfl (by rfl) fun K hK => ?_
     go_simp
     refine (numberOf_any _ (clP k) _ hC (by rw [clP_length]; decide)).mono ?_
     rintro e wq ⟨r, rfl, hr, hvr, bq⟩
     replace hB := stepB hB bq
     try replace hG5 := hG5.kept bq
     try replace hG6 := hG6.kept bq
     refine hK.out _ _ hB ?_
     clear hK K
     try simp only [Act.put, putA, putB, putC]
     refine wpB_do (i := 5) (o := ⟨some 17, .call { callee := .value (.func 72), args := #[.tmp 16], argTypes := #[22] }, 95, "poly.go:106", #[⟨4, .data⟩, ⟨2, .chain⟩], none⟩) (by kernel_rfl) rfl (by rfl) fun K hK => ?_
     go_simp
     refine (numberOf_any _ (k.drop 16) _ (HS.out.kept hB) (by rw [List.length_drop, HK32.out]; decide)).mono ?_
     rintro e wq ⟨s, rfl, hs, hvs, bq⟩
     replace hB := stepB hB bq
     try replace hG5 := hG5.kept bq
     try replace hG6 := hG6.kept bq
     refine hK.out _ _ hB ?_
     clear hK K
     try simp only [Act.put, putA, putB, putC]
     refine wpB_do (i := 8) (o := ⟨none, .store 95 (.tmp 5) (.tmp 14), 0, "poly.go:106", #[⟨6, .data⟩, ⟨2, .data⟩, ⟨5, .chain⟩, ⟨0, .phase⟩, ⟨1, .phase⟩, ⟨2, .phase⟩, ⟨3, .textOnly .lateStores⟩, ⟨4, .textOnly .lateStoresUnsure⟩, ⟨5, .textOnly .lateStoresUnsure⟩, ⟨6, .phase⟩, ⟨7, .phase⟩], none⟩) (by kernel_rfl) rfl (by rfl) fun K hK => ?_
     have hne56 : g5 ≠ g6 := by omega
     refine wp_store_nm (l := z3) (l2 := r) hB hge5 _ _ rfl rfl rfl hG5 z3_nm hr ?_
     intro wS hG5S hwS hBS
     replace hB := hBS
     replace hG6 := hG6.wrote hwS (by omega)
     refine hK.out _ _ hB ?_
     clear hK K
     try simp only [Act.put, putA, putB, putC]
     refine wpB_do (i := 9) (o := ⟨none, .store 95 (.tmp 6) (.tmp 17), 0, "poly.go:106", #[⟨7, .data⟩, ⟨5, .data⟩, ⟨8, .chain⟩, ⟨0, .phase⟩, ⟨1, .phase⟩, ⟨2, .phase⟩, ⟨3, .phase⟩, ⟨4, .phase⟩, ⟨5, .phase⟩, ⟨6, .phase⟩, ⟨7, .phase⟩, ⟨8, .phase⟩], none⟩) (by kernel_rfl) rfl (by rfl) fun K hK => ?_
     refine wp_store_nm (l := z3) (l2 := s) hB hge6 _ _ rfl rfl rfl hG6 z3_nm hs ?_
     intro wS2 hG6S hwS2 hBS2
     replace hB := hBS2
     replace hG5S := hG5S.wrote hwS2 (by omega)
     refine hK.out _ _ hB ?_
     clear hK K
     try simp only [Act.put, putA, putB, putC]
     refine wpB_done (by kernel_rfl) ?_
     go_wp2_with fail
     go_meet
     exact ⟨g5, g6, r, s, rfl, rfl, hge5, hge6, hne56, hr, hs, hvr, hvs, hG5S, hG6S, hB⟩
   ·refine wp_alloc_nm hB rfl ?_
    intro g6 wA hG6 hge6 hgw6 hbA hBA
    replace hB := hBA
    try have hlt5 := hG5.lt
    try replace hG5 := hG5.kept hbA
    try replace hC := hC.kept hbA
    refine hK.out _ _ hB ?_
    clear hK K
    try simp only [Act.put, putA, putB, putC]
    refine wpB_do (i := 1) (o := ⟨some 13, .call { callee := .value (.func 73), args := #[.tmp 12], argTypes := #[22] }, 22, "poly.go:106", #[⟨0, .data⟩], none⟩) (by kernel_rfl) rfl (by rfl) fun K hK => ?_
    go_simp
    refine (pclamp_any _ k _ (HT.out.kept hB) (HK.out.kept hB) HK32.out).mono ?_
    rintro e wq ⟨vC, rfl, hN1⟩
    have hC := hN1.rd
    replace hB := stepB hB hN1.2
    try replace hG5 := hG5.kept hN1.2
    try replace hG6 := hG6.kept hN1.2
    refine hK.out _ _ hB ?_
    clear hK K
    try simp only [Act.put, putA, putB, putC]
    refine wpB_do (i := 2) (o := ⟨some 14, .call { callee := .value (.func 72), args := #[.tmp 13], argTypes := #[22] }, 95, "poly.go:106", #[⟨1, .data⟩, ⟨1, .chain⟩], none⟩) (by kernel_rfl) rfl (by rfl) fun K hK => ?_
    go_simp
    refine (numberOf_any _ (clP k) _ hC (by rw [clP_length]; decide)).mono ?_
    rintro e wq ⟨r, rfl, hr, hvr, bq⟩
    replace hB := stepB hB bq
    try replace hG5 := hG5.kept bq
    try replace hG6 := hG6.kept bq
    refine hK.out _ _ hB ?_
    clear hK K
    try simp only [Act.put, putA, putB, putC]
    refine wpB_do (i := 5) (o := ⟨some 17, .call { callee := .value (.func 72), args := #[.tmp 16], argTypes := #[22] }, 95, "poly.go:106", #[⟨4, .data⟩, ⟨2, .chain⟩], none⟩) (by kernel_rfl) rfl (by rfl) fun K hK => ?_
    go_simp
    refine (numberOf_any _ (k.drop 16) _ (HS.out.kept hB) (by rw [List.length_drop, HK32.out]; decide)).mono ?_
    rintro e wq ⟨s, rfl, hs, hvs, bq⟩
    replace hB := stepB hB bq
    try replace hG5 := hG5.kept bq
    try replace hG6 := hG6.kept bq
    refine hK.out _ _ hB ?_
    clear hK K
    try simp only [Act.put, putA, putB, putC]
    refine wpB_do (i := 8) (o := ⟨none, .store 95 (.tmp 5) (.tmp 14), 0, "poly.go:106", #[⟨6, .data⟩, ⟨2, .data⟩, ⟨5, .chain⟩, ⟨0, .phase⟩, ⟨1, .phase⟩, ⟨2, .phase⟩, ⟨3, .textOnly .lateStores⟩, ⟨4, .textOnly .lateStoresUnsure⟩, ⟨5, .textOnly .lateStoresUnsure⟩, ⟨6, .phase⟩, ⟨7, .phase⟩], none⟩) (by kernel_rfl) rfl (by rfl) fun K hK => ?_
    have hne56 : g5 ≠ g6 := by omega
    refine wp_store_nm (l := z3) (l2 := r) hB hge5 _ _ rfl rfl rfl hG5 z3_nm hr ?_
    intro wS hG5S hwS hBS
    replace hB := hBS
    replace hG6 := hG6.wrote hwS (by omega)
    refine hK.out _ _ hB ?_
    clear hK K
    try simp only [Act.put, putA, putB, putC]
    refine wpB_do (i := 9) (o := ⟨none, .store 95 (.tmp 6) (.tmp 17), 0, "poly.go:106", #[⟨7, .data⟩, ⟨5, .data⟩, ⟨8, .chain⟩, ⟨0, .phase⟩, ⟨1, .phase⟩, ⟨2, .phase⟩, ⟨3, .phase⟩, ⟨4, .phase⟩, ⟨5, .phase⟩, ⟨6, .phase⟩, ⟨7, .phase⟩, ⟨8, .phase⟩], none⟩) (by kernel_rfl) rfl (by rfl) fun K hK => ?_
    refine wp_store_nm (l := z3) (l2 := s) hB hge6 _ _ rfl rfl rfl hG6 z3_nm hs ?_
    intro wS2 hG6S hwS2 hBS2
    replace hB := hBS2
    replace hG5S := hG5S.wrote hwS2 (by omega)
    refine hK.out _ _ hB ?_
    clear hK K
    try simp only [Act.put, putA, putB, putC]
    refine wpB_done (by kernel_rfl) ?_
    go_wp2_with fail
    go_meet
    exact ⟨g5, g6, r, s, rfl, rfl, hge5, hge6, hne56, hr, hs, hvr, hvs, hG5S, hG6S, hB⟩
  ·refine wp_alloc_nm hB rfl ?_
   intro g6 wA hG6 hge6 hgw6 hbA hBA
   replace hB := hBA
   try have hlt5 := hG5.lt
   try replace hG5 := hG5.kept hbA
   try replace hC := hC.kept hbA
   refine hK.out _ _ hB ?_
   clear hK K
   try simp only [Act.put, putA, putB, putC]
   refine wpB_fork (i := 1) (j := 6) (oi := ⟨some 13, .call { callee := .value (.func 73), args := #[.tmp 12], argTypes := #[22] }, 22, "poly.go:106", #[⟨0, .data⟩], none⟩) (oj := ⟨some 5, .alloc 95, 0, "poly.go:106", #[], none⟩) (by kernel_rfl) rfl rfl (by rfl) (by rfl) (fun K hK => ?_) (fun K hK => ?_)
   ·go_simp
    refine (pclamp_any _ k _ (HT.out.kept hB) (HK.out.kept hB) HK32.out).mono ?_
    rintro e wq ⟨vC, rfl, hN1⟩
    have hC := hN1.rd
    replace hB := stepB hB hN1.2
    try replace hG5 := hG5.kept hN1.2
    try replace hG6 := hG6.kept hN1.2
    refine hK.out _ _ hB ?_
    clear hK K
    try simp only [Act.put, putA, putB, putC]
    refine wpB_fork (i := 2) (j := 6) (oi := ⟨some 14, .call { callee := .value (.func 72), args := #[.tmp 13], argTypes := #[22] }, 95, "poly.go:106", #[⟨1, .data⟩, ⟨1, .chain⟩], none⟩) (oj := ⟨some 5, .alloc 95, 0, "poly.go:106", #[], none⟩) (by kernel_rfl) rfl rfl (by rfl) (by rfl) (fun K hK => ?_) (fun K hK => ?_)
    ·go_simp
     refine (numberOf_any _ (clP k) _ hC (by rw [clP_length]; decide)).mono ?_
     rintro e wq ⟨r, rfl, hr, hvr, bq⟩
     replace hB := stepB hB bq
     try replace hG5 := hG5.kept bq
     try replace hG6 := hG6.kept bq
     refine hK.out _ _ hB ?_
     clear hK K
     try simp only [Act.put, putA, putB, putC]
     refine wpB_fork (i := 5) (j := 6) (oi := ⟨some 17, .call { callee := .value (.func 72), args := #[.tmp 16], argTypes := #[22] }, 95, "poly.go:106", #[⟨4, .data⟩, ⟨2, .chain⟩], none⟩) (oj := ⟨some 5, .alloc 95, 0, "poly.go:106", #[], none⟩) (by kernel_rfl) rfl rfl (by rfl) (by rfl) (fun K hK => ?_) (fun K hK => ?_)
     ·go_simp
      refine (numberOf_any _ (k.drop 16) _ (HS.out.kept hB) (by rw [List.length_drop, HK32.out]; decide)).mono ?_
      rintro e wq ⟨s, rfl, hs, hvs, bq⟩
      replace hB := stepB hB bq
      try replace hG5 := hG5.kept bq
      try replace hG6 := hG6.kept bq
      refine hK.out _ _ hB ?_
      clear hK K
      try simp only [Act.put, putA, putB, putC]
      refine wpB_do (i := 6) (o := ⟨some 5, .alloc 95, 0, "poly.go:106", #[], none⟩) (by kernel_rfl) rfl (by rfl) fun K hK => ?_
      refine wp_alloc_nm hB rfl ?_
      intro g5 wA hG5 hge5 hgw5 hbA hBA
      replace hB := hBA
      try have hlt6 := hG6.lt
      try replace hG6 := hG6.kept hbA
      try replace hC := hC.kept hbA
      refine hK.out _ _ hB ?_
      clear hK K
      try simp only [Act.put, putA, putB, putC]
      refine wpB_do (i := 8) (o := ⟨none, .store 95 (.tmp 5) (.tmp 14), 0, "poly.go:106", #[⟨6, .data⟩, ⟨2, .data⟩, ⟨5, .chain⟩, ⟨0, .phase⟩, ⟨1, .phase⟩, ⟨2, .phase⟩, ⟨3, .textOnly .lateStores⟩, ⟨4, .textOnly .lateStoresUnsure⟩, ⟨5, .textOnly .lateStoresUnsure⟩, ⟨6, .phase⟩, ⟨7, .phase⟩], none⟩) (by kernel_rfl) rfl (by rfl) fun K hK => ?_
      have hne56 : g5 ≠ g6 := by omega
      refine wp_store_nm (l := z3) (l2 := r) hB hge5 _ _ rfl rfl rfl hG5 z3_nm hr ?_
      intro wS hG5S hwS hBS
      replace hB := hBS
      replace hG6 := hG6.wrote hwS (by omega)
      refine hK.out _ _ hB ?_
      clear hK K
      try simp only [Act.put, putA, putB, putC]
      refine wpB_do (i := 9) (o := ⟨none, .store 95 (.tmp 6) (.tmp 17), 0, "poly.go:106", #[⟨7, .data⟩, ⟨5, .data⟩, ⟨8, .chain⟩, ⟨0, .phase⟩, ⟨1, .phase⟩, ⟨2, .phase⟩, ⟨3, .phase⟩, ⟨4, .phase⟩, ⟨5, .phase⟩, ⟨6, .phase⟩, ⟨7, .phase⟩, ⟨8, .phase⟩], none⟩) (by kernel_rfl) rfl (by rfl) fun K hK => ?_
      refine wp_store_nm (l := z3) (l2 := s) hB hge6 _ _ rfl rfl rfl hG6 z3_nm hs ?_
      intro wS2 hG6S hwS2 hBS2
      replace hB := hBS2
      replace hG5S := hG5S.wrote hwS2 (by omega)
      refine hK.out _ _ hB ?_
      clear hK K
      try simp only [Act.put, putA, putB, putC]
      refine wpB_done (by kernel_rfl) ?_
      go_wp2_with fail
      go_meet
      exact ⟨g5, g6, r, s, rfl, rfl, hge5, hge6, hne56, hr, hs, hvr, hvs, hG5S, hG6S, hB⟩
     ·refine wp_alloc_nm hB rfl ?_
      intro g5 wA hG5 hge5 hgw5 hbA hBA
      replace hB := hBA
      try have hlt6 := hG6.lt
      try replace hG6 := hG6.kept hbA
      try replace hC := hC.kept hbA
      refine hK.out _ _ hB ?_
      clear hK K
      try simp only [Act.put, putA, putB, putC]
      refine wpB_do (i := 5) (o := ⟨some 17, .call { callee := .value (.func 72), args := #[.tmp 16], argTypes := #[22] }, 95, "poly.go:106", #[⟨4, .data⟩, ⟨2, .chain⟩], none⟩) (by kernel_rfl) rfl (by rfl) fun K hK => ?_
      go_simp
      refine (numberOf_any _ (k.drop 16) _ (HS.out.kept hB) (by rw [List.length_drop, HK32.out]; decide)).mono ?_
      rintro e wq ⟨s, rfl, hs, hvs, bq⟩
      replace hB := stepB hB bq
      try replace hG5 := hG5.kept bq
      try replace hG6 := hG6.kept bq
      refine hK.out _ _ hB ?_
      clear hK K
      try simp only [Act.put, putA, putB, putC]
      refine wpB_do (i := 8) (o := ⟨none, .store 95 (.tmp 5) (.tmp 14), 0, "poly.go:106", #[⟨6, .data⟩, ⟨2, .data⟩, ⟨5, .chain⟩, ⟨0, .phase⟩, ⟨1, .phase⟩, ⟨2, .phase⟩, ⟨3, .textOnly .lateStores⟩, ⟨4, .textOnly .lateStoresUnsure⟩, ⟨5, .textOnly .lateStoresUnsure⟩, ⟨6, .phase⟩, ⟨7, .phase⟩], none⟩) (by kernel_rfl) rfl (by rfl) fun K hK => ?_
      have hne56 : g5 ≠ g6 := by omega
      refine wp_store_nm (l := z3) (l2 := r) hB hge5 _ _ rfl rfl rfl hG5 z3_nm hr ?_
      intro wS hG5S hwS hBS
      replace hB := hBS
      replace hG6 := hG6.wrote hwS (by omega)
      refine hK.out _ _ hB ?_
      clear hK K
      try simp only [Act.put, putA, putB, putC]
      refine wpB_do (i := 9) (o := ⟨none, .store 95 (.tmp 6) (.tmp 17), 0, "poly.go:106", #[⟨7, .data⟩, ⟨5, .data⟩, ⟨8, .chain⟩, ⟨0, .phase⟩, ⟨1, .phase⟩, ⟨2, .phase⟩, ⟨3, .phase⟩, ⟨4, .phase⟩, ⟨5, .phase⟩, ⟨6, .phase⟩, ⟨7, .phase⟩, ⟨8, .phase⟩], none⟩) (by kernel_rfl) rfl (by rfl) fun K hK => ?_
      refine wp_store_nm (l := z3) (l2 := s) hB hge6 _ _ rfl rfl rfl hG6 z3_nm hs ?_
      intro wS2 hG6S hwS2 hBS2
      replace hB := hBS2
      replace hG5S := hG5S.wrote hwS2 (by omega)
      refine hK.out _ _ hB ?_
      clear hK K
      try simp only [Act.put, putA, putB, putC]
      refine wpB_done (by kernel_rfl) ?_
      go_wp2_with fail
      go_meet
      exact ⟨g5, g6, r, s, rfl, rfl, hge5, hge6, hne56, hr, hs, hvr, hvs, hG5S, hG6S, hB⟩
    ·refine wp_alloc_nm hB rfl ?_
     intro g5 wA hG5 hge5 hgw5 hbA hBA
     replace hB := hBA
     try have hlt6 := hG6.lt
     try replace hG6 := hG6.kept hbA
     try replace hC := hC.kept hbA
     refine hK.out _ _ hB ?_
     clear hK K
     try simp only [Act.put, putA, putB, putC]
     refine wpB_do (i := 2) (o := ⟨some 14, .call { callee := .value (.func 72), args := #[.tmp 13], argTypes := #[22] }, 95, "poly.go:106", #[⟨1, .data⟩, ⟨1, .chain⟩], none⟩) (by kernel_rfl) rfl (by rfl) fun K hK => ?_
     go_simp
     refine (numberOf_any _ (clP k) _ hC (by rw [clP_length]; decide)).mono ?_
     rintro e wq ⟨r, rfl, hr, hvr, bq⟩
     replace hB := stepB hB bq
     try replace hG5 := hG5.kept bq
     try replace hG6 := hG6.kept bq
     refine hK.out _ _ hB ?_
     clear hK K
     try simp only [Act.put, putA, putB, putC]
     refine wpB_do (i := 5) (o := ⟨some 17, .call { callee := .value (.func 72), args := #[.tmp 16], argTypes := #[22] }, 95, "poly.go:106", #[⟨4, .data⟩, ⟨2, .chain⟩], none⟩) (by kernel_rfl) rfl (by rfl) fun K hK => ?_
     go_simp
     refine (numberOf_any _ (k.drop 16) _ (HS.out.kept hB) (by rw [List.length_drop, HK32.out]; decide)).mono ?_
     rintro e wq ⟨s, rfl, hs, hvs, bq⟩
     replace hB := stepB hB bq
     try replace hG5 := hG5.kept bq
     try replace hG6 := hG6.kept bq
     refine hK.out _ _ hB ?_
     clear hK K
     try simp only [Act.put, putA, putB, putC]
     refine wpB_do (i := 8) (o := ⟨none, .store 95 (.tmp 5) (.tmp 14), 0, "poly.go:106", #[⟨6, .data⟩, ⟨2, .data⟩, ⟨5, .chain⟩, ⟨0, .phase⟩, ⟨1, .phase⟩, ⟨2, .phase⟩, ⟨3, .textOnly .lateStores⟩, ⟨4, .textOnly .lateStoresUnsure⟩, ⟨5, .textOnly .lateStoresUnsure⟩, ⟨6, .phase⟩, ⟨7, .phase⟩], none⟩) (by kernel_rfl) rfl (by rfl) fun K hK => ?_
     have hne56 : g5 ≠ g6 := by omega
     refine wp_store_nm (l := z3) (l2 := r) hB hge5 _ _ rfl rfl rfl hG5 z3_nm hr ?_
     intro wS hG5S hwS hBS
     replace hB := hBS
     replace hG6 := hG6.wrote hwS (by omega)
     refine hK.out _ _ hB ?_
     clear hK K
     try simp only [Act.put, putA, putB, putC]
     refine wpB_do (i := 9) (o := ⟨none, .store 95 (.tmp 6) (.tmp 17), 0, "poly.go:106", #[⟨7, .data⟩, ⟨5, .data⟩, ⟨8, .chain⟩, ⟨0, .phase⟩, ⟨1, .phase⟩, ⟨2, .phase⟩, ⟨3, .phase⟩, ⟨4, .phase⟩, ⟨5, .phase⟩, ⟨6, .phase⟩, ⟨7, .phase⟩, ⟨8, .phase⟩], none⟩) (by kernel_rfl) rfl (by rfl) fun K hK => ?_
     refine wp_store_nm (l := z3) (l2 := s) hB hge6 _ _ rfl rfl rfl hG6 z3_nm hs ?_
     intro wS2 hG6S hwS2 hBS2
     replace hB := hBS2
     replace hG5S := hG5S.wrote hwS2 (by omega)
     refine hK.out _ _ hB ?_
     clear hK K
     try simp only [Act.put, putA, putB, putC]
     refine wpB_done (by kernel_rfl) ?_
     go_wp2_with fail
     go_meet
     exact ⟨g5, g6, r, s, rfl, rfl, hge5, hge6, hne56, hr, hs, hvr, hvs, hG5S, hG6S, hB⟩
   ·refine wp_alloc_nm hB rfl ?_
    intro g5 wA hG5 hge5 hgw5 hbA hBA
    replace hB := hBA
    try have hlt6 := hG6.lt
    try replace hG6 := hG6.kept hbA
    try replace hC := hC.kept hbA
    refine hK.out _ _ hB ?_
    clear hK K
    try simp only [Act.put, putA, putB, putC]
    refine wpB_do (i := 1) (o := ⟨some 13, .call { callee := .value (.func 73), args := #[.tmp 12], argTypes := #[22] }, 22, "poly.go:106", #[⟨0, .data⟩], none⟩) (by kernel_rfl) rfl (by rfl) fun K hK => ?_
    go_simp
    refine (pclamp_any _ k _ (HT.out.kept hB) (HK.out.kept hB) HK32.out).mono ?_
    rintro e wq ⟨vC, rfl, hN1⟩
    have hC := hN1.rd
    replace hB := stepB hB hN1.2
    try replace hG5 := hG5.kept hN1.2
    try replace hG6 := hG6.kept hN1.2
    refine hK.out _ _ hB ?_
    clear hK K
    try simp only [Act.put, putA, putB, putC]
    refine wpB_do (i := 2) (o := ⟨some 14, .call { callee := .value (.func 72), args := #[.tmp 13], argTypes := #[22] }, 95, "poly.go:106", #[⟨1, .data⟩, ⟨1, .chain⟩], none⟩) (by kernel_rfl) rfl (by rfl) fun K hK => ?_
    go_simp
    refine (numberOf_any _ (clP k) _ hC (by rw [clP_length]; decide)).mono ?_
    rintro e wq ⟨r, rfl, hr, hvr, bq⟩
    replace hB := stepB hB bq
    try replace hG5 := hG5.kept bq
    try replace hG6 := hG6.kept bq
    refine hK.out _ _ hB ?_
    clear hK K
    try simp only [Act.put, putA, putB, putC]
    refine wpB_do (i := 5) (o := ⟨some 17, .call { callee := .value (.func 72), args := #[.tmp 16], argTypes := #[22] }, 95, "poly.go:106", #[⟨4, .data⟩, ⟨2, .chain⟩], none⟩) (by kernel_rfl) rfl (by rfl) fun K hK => ?_
    go_simp
    refine (numberOf_any _ (k.drop 16) _ (HS.out.kept hB) (by rw [List.length_drop, HK32.out]; decide)).mono ?_
    rintro e wq ⟨s, rfl, hs, hvs, bq⟩
    replace hB := stepB hB bq
    try replace hG5 := hG5.kept bq
    try replace hG6 := hG6.kept bq
    refine hK.out _ _ hB ?_
    clear hK K
    try simp only [Act.put, putA, putB, putC]
    refine wpB_do (i := 8) (o := ⟨none, .store 95 (.tmp 5) (.tmp 14), 0, "poly.go:106", #[⟨6, .data⟩, ⟨2, .data⟩, ⟨5, .chain⟩, ⟨0, .phase⟩, ⟨1, .phase⟩, ⟨2, .phase⟩, ⟨3, .textOnly .lateStores⟩, ⟨4, .textOnly .lateStoresUnsure⟩, ⟨5, .textOnly .lateStoresUnsure⟩, ⟨6, .phase⟩, ⟨7, .phase⟩], none⟩) (by kernel_rfl) rfl (by rfl) fun K hK => ?_
    have hne56 : g5 ≠ g6 := by omega
    refine wp_store_nm (l := z3) (l2 := r) hB hge5 _ _ rfl rfl rfl hG5 z3_nm hr ?_
    intro wS hG5S hwS hBS
    replace hB := hBS
    replace hG6 := hG6.wrote hwS (by omega)
    refine hK.out _ _ hB ?_
    clear hK K
    try simp only [Act.put, putA, putB, putC]
    refine wpB_do (i := 9) (o := ⟨none, .store 95 (.tmp 6) (.tmp 17), 0, "poly.go:106", #[⟨7, .data⟩, ⟨5, .data⟩, ⟨8, .chain⟩, ⟨0, .phase⟩, ⟨1, .phase⟩, ⟨2, .phase⟩, ⟨3, .phase⟩, ⟨4, .phase⟩, ⟨5, .phase⟩, ⟨6, .phase⟩, ⟨7, .phase⟩, ⟨8, .phase⟩], none⟩) (by kernel_rfl) rfl (by rfl) fun K hK => ?_
    refine wp_store_nm (l := z3) (l2 := s) hB hge6 _ _ rfl rfl rfl hG6 z3_nm hs ?_
    intro wS2 hG6S hwS2 hBS2
    replace hB := hBS2
    replace hG5S := hG5S.wrote hwS2 (by omega)
    refine hK.out _ _ hB ?_
    clear hK K
    try simp only [Act.put, putA, putB, putC]
    refine wpB_done (by kernel_rfl) ?_
    go_wp2_with fail
    go_meet
    exact ⟨g5, g6, r, s, rfl, rfl, hge5, hge6, hne56, hr, hs, hvr, hvs, hG5S, hG6S, hB⟩
 case rest =>
 obtain ⟨g5, g6, r, s, rfl, rfl, hge5, hge6, hne56, HR, HSn, HVr, HVs, r5, r6, hbw⟩ := hcut
 rename World => W0
 have hg5 := r5.lt
 have hg6 := r6.lt
 go_wp2_with (refine wpList_alloc_row (k := .u64) rfl 95 rfl (nI z3) (alloc_nm _) z3_nm.ne (nmMax z3_nm) ?_)
 intro w2 r7 b2 s2
 rw [z3_nm.len] at r7
 replace r5 := r5.kept b2
 replace r6 := r6.kept b2
 have hszW := hbw.size
 replace hbw := stepB hbw b2
 clear b2 s2
 have HR2 : Hid (wv r < 21267647932558653966460912964485513216) := by
  show _ < _
  rw [HVr.out]
  exact clP_lt k
 go_wp2
 go_loopw [1] (fun v wx => ∃ (j : Nat) (X : List Nat), Rd w v (b.drop (16 * j)) ∧ Hid (j ≤ nblk b.length) ∧ Hid (Nm3 X) ∧ Hid (wv X % p8 = accN (leN (clP k)) b j) ∧ Hid (wv X < 1701411834604692317316873037158841057280) ∧ RowAt .u64 95 g5 3 (nI r) wx ∧ RowAt .u64 95 g6 3 (nI s) wx ∧ RowAt .u64 95 W0.heap.size 3 (nI X) wx ∧ Below w.heap.size w wx) (fun v _ => rowLen8 v)
 case atStart => exact ⟨0, z3, by rw [Nat.mul_zero, List.drop_zero]; exact HB.out, Nat.zero_le _, z3_nm, (by show _ = _; rw [z3_wv]; rfl), (by show _ < _; rw [z3_wv]; decide), r5, r6, r7, hbw⟩
 case round =>
  obtain ⟨j, X, hRb, HJ, HX, HV, HBd, r5', r6', r7', hbx⟩ := hrel
  clear r5 r6 r7 hbw
  obtain ⟨ab, cb, rfl, hcb, hmb, hnone, -⟩ := id hRb
  obtain ⟨L, hL⟩ : ∃ L : Nat, L = (b.drop (16 * j)).length := ⟨_, rfl⟩
  rw [← hL] at hcb hRb ⊢
  have HL : Hid _ := hL
  have hmb2 := hmb
  unfold maxLen at hmb2
  by_cases hlt : 0 < L
  ·have hd : decide ((0 : Int) < (L : Int)) = true := decide_eq_true (by omega)
   have hLI : (0 : Int) < (L : Int) := by omega
   obtain ⟨m, hm⟩ : ∃ m : Nat, m = min L 16 := ⟨_, rfl⟩
   have hmin : (if (16 : Int) < (L : Int) then (16 : Int) else (L : Int)) = (m : Int) := by split <;> omega
   obtain ⟨hd1, hd2⟩ := drop_more b j m L hL hm
   obtain ⟨ab', htail, hrest⟩ := exec_tail (ab := ab) (m := m) (show m ≤ L by omega) hcb hmb hnone
   have hhead := hRb.take (n := m) (by omega)
   rw [hd2] at hhead
   have HHead : Hid (Rd w (.slice ab m cb) ((b.drop (16 * j)).take 16)) := hhead
   have HExH : Hid (m ≤ L ∧ L ≤ cb ∧ cb ≤ maxLen ∧ (ab = none → cb = 0)) := ⟨by omega, hcb, hmb, hnone⟩
   have HRest : Hid (Rd w (.slice ab' (L - m) (cb - m)) (b.drop (16 * (j + 1)))) := by
    rw [← hd1]
    exact hrest _ _ hRb
   have HBk : Hid (leN ((b.drop (16 * j)).take 16) + 256 ^ ((b.drop (16 * j)).take 16).length = blkN b j) := by show _ = _; rfl
   have HBl : Hid (((b.drop (16 * j)).take 16).length ≤ 16) := by show _ ≤ _; rw [List.length_take]; exact Nat.min_le_left _ _
   have HAc : Hid _ := acc_bound (wv X) (blkN b j) (wv r) HBd.out (blkN_lt b j) HR2.out
   have HJ2 : Hid (j + 1 ≤ nblk b.length) := by
    rw [List.length_drop] at hL
    show _ ≤ _
    unfold nblk
    omega
   have HMs : Hid (L - m < L) := by show _ < _; omega
   have HT2 : Hid _ := @htail
   clear hRb hL hd1 hd2 hm hrest hhead htail hcb hmb hnone
   go_wp2_with fail
   refine wpE_begin 8 (by kernel_rfl) ?_
   refine wpE_t (i := 0) (oi := ⟨some 24, .load 95 (.tmp 7), 95, "poly.go:110", #[], none⟩) (v := ?_) ?_ ?_
   rotate_left
   ·intro W hW; refine Eq.trans (exec_load_row 95 _ (by rfl) (by rfl) r7' hW _ Tryd.underlying95 rfl (nmInfo HX.out)) ?_; with_reducible rfl
   try simp only [Act.put, putA, putB, putC]
   refine wpE_t (i := 1) (oi := ⟨some 25, .move (.tmp 1), 22, "poly.go:110", #[], none⟩) (v := ?_) ?_ ?_
   rotate_left
   ·intro W hW; go_simp <;> with_reducible rfl
   try simp only [Act.put, putA, putB, putC]
   refine wpE_t (i := 2) (oi := ⟨some 26, .move (.tmp 8), 3, "poly.go:110", #[], none⟩) (v := ?_) ?_ ?_
   rotate_left
   ·intro W hW; go_simp <;> with_reducible rfl
   try simp only [Act.put, putA, putB, putC]
   refine wpE_t (i := 3) (oi := ⟨some 27, .slice 22 (.tmp 25) none (some (.tmp 26)) none, 22, "poly.go:110", #[⟨1, .data⟩, ⟨2, .data⟩], none⟩) (v := ?_) ?_ ?_
   rotate_left
   ·intro W hW; refine Eq.trans (exec_head _ _ (by rfl) (by rfl) (by rfl) HExH.out.1 HExH.out.2.1 HExH.out.2.2.1 HExH.out.2.2.2) ?_; with_reducible rfl
   try simp only [Act.put, putA, putB, putC]
   refine wpE_t (i := 6) (oi := ⟨some 30, .load 95 (.tmp 5), 95, "poly.go:110", #[], none⟩) (v := ?_) ?_ ?_
   rotate_left
   ·intro W hW; refine Eq.trans (exec_load_row 95 _ (by rfl) (by rfl) r5' hW _ Tryd.underlying95 rfl (nmInfo HR.out)) ?_; with_reducible rfl
   try simp only [Act.put, putA, putB, putC]
   refine wpE_do (i := 4) (o := ⟨some 28, .call { callee := .value (.func 75), args := #[.tmp 27], argTypes := #[22] }, 95, "poly.go:110", #[⟨3, .data⟩], none⟩) (by kernel_rfl) rfl (by rfl) fun K hK => ?_
   go_simp
   refine (pieceOf_any _ _ _ (HHead.out.kept hbx).drew HBl.out).mono ?_
   rintro e wp ⟨xp, rfl, hxp, hvp, bp⟩
   rw [HBk.out] at hvp
   refine hK.out _ _ bp ?_
   clear hK K
   try simp only [Act.put, putA, putB, putC]
   refine wpE_do (i := 5) (o := ⟨some 29, .call { callee := .value (.func 74), args := #[.tmp 24, .tmp 28], argTypes := #[95, 95] }, 95, "poly.go:110", #[⟨0, .data⟩, ⟨4, .data⟩, ⟨4, .chain⟩], none⟩) (by kernel_rfl) rfl (by rfl) fun K hK => ?_
   go_simp
   refine (plus_any _ _ X xp HX.out hxp (by rw [hvp]; have := HAc.out.1; omega) rfl rfl _).mono ?_
   rintro e wq ⟨xq, rfl, hxq, hvq, bq⟩
   rw [hvp] at hvq
   refine hK.out _ _ bq ?_
   clear hK K
   try simp only [Act.put, putA, putB, putC]
   refine wpE_do (i := 7) (o := ⟨some 31, .call { callee := .value (.func 76), args := #[.tmp 29, .tmp 30], argTypes := #[95, 95] }, 95, "poly.go:110", #[⟨5, .data⟩, ⟨6, .data⟩, ⟨5, .chain⟩], none⟩) (by kernel_rfl) rfl (by rfl) fun K hK => ?_
   go_simp
   refine (ptimes_any _ _ xq r hxq HR.out (by have := HR2.out; omega) (by rw [hvq]; exact HAc.out.2) rfl rfl _).mono ?_
   rintro e wm ⟨xm, rfl, hxm, hvm, bm⟩
   rw [hvq] at hvm
   refine hK.out _ _ bm ?_
   clear hK K
   try simp only [Act.put, putA, putB, putC]
   refine wpE_last (o := ⟨none, .store 95 (.tmp 7) (.tmp 31), 0, "poly.go:110", #[⟨7, .data⟩, ⟨7, .chain⟩, ⟨0, .phase⟩, ⟨1, .phase⟩, ⟨2, .phase⟩, ⟨3, .phase⟩, ⟨4, .phase⟩, ⟨5, .phase⟩, ⟨6, .phase⟩, ⟨7, .phase⟩], none⟩) (by kernel_rfl) (by kernel_rfl) rfl (by rfl) fun K hK => ?_
   refine wp_store_row 95 _ _ rfl (nI xm) rfl rfl (((r7'.drew.kept bp).kept bq).kept bm) (by rw [HX.out.len, hxm.len]) (nmInfo HX.out) ?_
   intro wS rS hwS
   refine hK.out _ _ ?_
   clear hK K
   try simp only [Act.put, putA, putB, putC]
   have bS : Below wr.heap.size wr wm := stepB (stepB (stepB (Below.refl _ _).drew bp) bq) bm
   have hbn := hwS.below _ _ (by omega) (stepB hbx bS)
   replace r5' := (r5'.kept bS).wrote hwS (by omega)
   replace r6' := (r6'.kept bS).wrote hwS (by omega)
   have HVn : Hid (wv xm % p8 = accN (leN (clP k)) b (j + 1)) := by
    show _ = _
    rw [hvm, HVr.out]
    exact acc_step _ b j _ HV.out
   have HBn : Hid (wv xm < 1701411834604692317316873037158841057280) := by
    show _ < _
    rw [hvm]
    exact fold8_bound _ HAc.out.2
   have HXn : Hid (Nm3 xm) := hxm
   clear hvm hxm hvq hxq hvp hxp bp bq bm bS hwS r7' hbx HHead HBk HBl HAc HV HBd HX
   go_wp2_with (refine wpList_val rfl (HT2.out _ _ rfl rfl rfl) ?_)
   go_roundw
   case rel => exact ⟨j + 1, xm, HRest.out, HJ2, HXn, HVn, HBn, r5', r6', rS, hbn⟩
   case measure => exact HMs.out
  ·have hd : decide ((0 : Int) < (L : Int)) = false := decide_eq_false (by omega)
   have hLI : (L : Int) ≤ 0 := by omega
   have hjn : j = nblk b.length := by
    have h1 := HJ.out
    rw [List.length_drop] at hL
    unfold nblk at h1 ⊢
    omega
   have HAcc : Hid (wv X % p8 = accN (leN (clP k)) b (nblk b.length)) := by rw [← hjn]; exact HV.out
   clear hjn hL HL HV HJ hRb hcb hmb hnone
   go_wp2_with fail
   refine wpE_begin 4 (by kernel_rfl) ?_
   refine wpE_t (i := 0) (oi := ⟨some 35, .load 95 (.tmp 7), 95, "poly.go:113", #[], none⟩) (v := ?_) ?_ ?_
   rotate_left
   ·intro W hW; refine Eq.trans (exec_load_row 95 _ (by rfl) (by rfl) r7' hW _ Tryd.underlying95 rfl (nmInfo HX.out)) ?_; with_reducible rfl
   try simp only [Act.put, putA, putB, putC]
   refine wpE_t (i := 2) (oi := ⟨some 37, .load 95 (.tmp 6), 95, "poly.go:113", #[], none⟩) (v := ?_) ?_ ?_
   rotate_left
   ·intro W hW; refine Eq.trans (exec_load_row 95 _ (by rfl) (by rfl) r6' hW _ Tryd.underlying95 rfl (nmInfo HSn.out)) ?_; with_reducible rfl
   try simp only [Act.put, putA, putB, putC]
   refine wpE_do (i := 1) (o := ⟨some 36, .call { callee := .value (.func 77), args := #[.tmp 35], argTypes := #[95] }, 95, "poly.go:113", #[⟨0, .data⟩], none⟩) (by kernel_rfl) rfl (by rfl) fun K hK => ?_
   go_simp
   refine (prest_any _ X HX.out HBd.out rfl _).mono ?_
   rintro e wp ⟨xp, rfl, hxp, hvp, bp⟩
   rw [HAcc.out] at hvp
   refine hK.out _ _ bp ?_
   clear hK K
   try simp only [Act.put, putA, putB, putC]
   refine wpE_do (i := 3) (o := ⟨some 38, .call { callee := .value (.func 74), args := #[.tmp 36, .tmp 37], argTypes := #[95, 95] }, 95, "poly.go:113", #[⟨1, .data⟩, ⟨2, .data⟩, ⟨1, .chain⟩], none⟩) (by kernel_rfl) rfl (by rfl) fun K hK => ?_
   go_simp
   refine (plus_any _ _ xp s hxp HSn.out (by rw [hvp, HVs.out]; exact mac_sum_lt k b HK32.out) rfl rfl _).mono ?_
   rintro e wq ⟨xq, rfl, hxq, hvq, bq⟩
   rw [hvp, HVs.out] at hvq
   refine hK.out _ _ bq ?_
   clear hK K
   try simp only [Act.put, putA, putB, putC]
   refine wpE_last (o := ⟨none, .store 95 (.tmp 7) (.tmp 38), 0, "poly.go:113", #[⟨3, .data⟩, ⟨3, .chain⟩, ⟨0, .phase⟩, ⟨1, .phase⟩, ⟨2, .phase⟩, ⟨3, .phase⟩], none⟩) (by kernel_rfl) (by kernel_rfl) rfl (by rfl) fun K hK => ?_
   refine wp_store_row 95 _ _ rfl (nI xq) rfl rfl ((r7'.drew.kept bp).kept bq) (by rw [HX.out.len, hxq.len]) (nmInfo HX.out) ?_
   intro wS rS hwS
   refine hK.out _ _ ?_
   clear hK K
   try simp only [Act.put, putA, putB, putC]
   have bS : Below wr.heap.size wr wq := stepB (stepB (Below.refl _ _).drew bp) bq
   have hbn := hwS.below _ _ (by omega) (stepB hbx bS)
   have k0 := rS.cell (j := 0) (by rw [hxq.len]; decide)
   have k1 := rS.cell (j := 1) (by rw [hxq.len]; decide)
   rw [nI_get] at k0 k1
   have HFin : Hid ((List.range 8).map (stB (xq.getD 0 0)) ++ (List.range 8).map (stB (xq.getD 1 0)) = mcP k b) := by
    show _ = _
    rw [bytes_wv hxq, hvq]
    exact (mcP_eq k b HK32.out).symm
   generalize xq.getD 0 0 = p0 at k0 HFin
   generalize xq.getD 1 0 = p1 at k1 HFin
   obtain ⟨la, hla⟩ : ∃ l : List UInt8, l = (List.range 8).map (stB p0) := ⟨_, rfl⟩
   obtain ⟨lb, hlb⟩ : ∃ l : List UInt8, l = (List.range 8).map (stB p1) := ⟨_, rfl⟩
   have HLen : Hid (la.length = 8 ∧ lb.length = 8) := ⟨by rw [hla]; simp, by rw [hlb]; simp⟩
   rw [← hla, ← hlb] at HFin
   have HLA : Hid _ := hla
   have HLB : Hid _ := hlb
   clear hla hlb
   clear hvq hxq hvp hxp bp bq bS hwS r5' r6' r7' hbx HBd HX HAcc rS
   go_wp2_with fail
   refine wpG_begin (by kernel_rfl) ?_
   refine wpG_t (i := 0) (oi := ⟨some 39, .indexAddr 95 (.tmp 7) (.const (.int .i64 0)), 0, "poly.go:115", #[], none⟩) (v := ?_) ?_ ?_
   rotate_left
   ·intro W hW; go_simp <;> with_reducible rfl
   try simp only [Act.put, putA, putB, putC]
   refine wpG_t (i := 1) (oi := ⟨some 40, .load 23 (.tmp 39), 23, "poly.go:115", #[⟨0, .data⟩], none⟩) (v := ?_) ?_ ?_
   rotate_left
   ·intro W hW; have hcW := cellU k0 hW; go_simp <;> with_reducible rfl
   try simp only [Act.put, putA, putB, putC]
   refine wpG_t (i := 3) (oi := ⟨some 42, .indexAddr 95 (.tmp 7) (.const (.int .i64 1)), 0, "poly.go:115", #[], none⟩) (v := ?_) ?_ ?_
   rotate_left
   ·intro W hW; go_simp <;> with_reducible rfl
   try simp only [Act.put, putA, putB, putC]
   refine wpG_t (i := 4) (oi := ⟨some 43, .load 23 (.tmp 42), 23, "poly.go:115", #[⟨3, .data⟩], none⟩) (v := ?_) ?_ ?_
   rotate_left
   ·intro W hW; have hcW := cellK k1 (stepB (Below.refl _ _).drew hW); go_simp <;> with_reducible rfl
   try simp only [Act.put, putA, putB, putC]
   refine wpG_do (i := 2) (o := ⟨some 41, .call { callee := .value (.func 43), args := #[.tmp 40, .const (.int .i64 8)], argTypes := #[23, 3] }, 22, "poly.go:115", #[⟨1, .data⟩], none⟩) (by kernel_rfl) rfl (by rfl) fun K hK => ?_
   go_simp
   refine (store_k p0 8 8 (by omega) (.inr (.inl ⟨by omega, by omega, rfl⟩)) _).mono ?_
   rintro e wa ⟨va, rfl, hNa⟩
   rw [← HLA.out] at hNa
   refine hK.out _ _ hNa.2 ?_
   clear hK K
   try simp only [Act.put, putA, putB, putC]
   refine wpG_do (i := 5) (o := ⟨some 44, .call { callee := .value (.func 43), args := #[.tmp 43, .const (.int .i64 8)], argTypes := #[23, 3] }, 22, "poly.go:115", #[⟨4, .data⟩, ⟨2, .chain⟩], none⟩) (by kernel_rfl) rfl (by rfl) fun K hK => ?_
   go_simp
   refine (store_k p1 8 8 (by omega) (.inr (.inl ⟨by omega, by omega, rfl⟩)) _).mono ?_
   rintro e wb ⟨vb2, rfl, hNb⟩
   rw [← HLB.out] at hNb
   refine hK.out _ _ hNb.2 ?_
   clear hK K
   have hRa := hNa.rd.kept hNb.2
   have hRb := hNb.rd
   obtain ⟨a1, c1, rfl, -, -, -, -⟩ := id hRa
   obtain ⟨a2, c2, rfl, -, -, -, -⟩ := id hRb
   have hL2 := RdL.pair8 (e := 22) rfl hRa hRb
   have g2 := growB (w := wb) (.cells #[.slice a1 la.length c1, .slice a2 lb.length c2] 22)
   try simp only [Act.put, putA, putB, putC]
   refine wpG_do (i := 6) (o := ⟨some 45, .buildSlice 42 2 #[(0, .tmp 41), (1, .tmp 44)], 42, "poly.go:115", #[⟨2, .data⟩, ⟨5, .data⟩], none⟩) (by kernel_rfl) rfl (by rfl) fun K hK => ?_
   go_simp
   refine hK.out _ _ g2 ?_
   clear hK K
   try simp only [Act.put, putA, putB, putC]
   refine wpG_do (i := 7) (o := ⟨some 46, .call { callee := .value (.func 22), args := #[.tmp 45], argTypes := #[42] }, 22, "poly.go:115", #[⟨6, .data⟩, ⟨5, .chain⟩], none⟩) (by kernel_rfl) rfl (by rfl) fun K hK => ?_
   go_simp
   refine (join_any _ _ _ _ hL2 (by have := HLen.out; simp [totL]; omega)).mono ?_
   rintro e wj ⟨vj, rfl, hNj⟩
   refine hK.out _ _ hNj.2 ?_
   clear hK K
   try simp only [Act.put, putA, putB, putC]
   refine wpG_t (i := 8) (oi := ⟨some 4, .assign (.tmp 46), 22, "poly.go:115", #[⟨7, .data⟩, ⟨7, .chain⟩, ⟨0, .phase⟩, ⟨1, .phase⟩, ⟨2, .phase⟩, ⟨3, .phase⟩, ⟨4, .phase⟩, ⟨5, .phase⟩, ⟨6, .phase⟩, ⟨7, .phase⟩], none⟩) (v := ?_) ?_ ?_
   rotate_left
   ·intro W hW; go_simp <;> with_reducible rfl
   try simp only [Act.put, putA, putB, putC]
   refine wpG_done (by kernel_rfl) ?_
   go_wp2
   go_ret
   refine ⟨_, rfl, ?_⟩
   have hNj2 := hNj.pair8
   rw [HFin.out] at hNj2
   exact hNj2.from (stepB (stepB (stepB hbn.drew hNa.2) hNb.2) g2)
def bkS (l : List Nat) : List UInt8 := wB (fun i => ((qDbl l 10).getD i 0 + l.getD i 0) % 4294967296) 16
theorem bkS_bkL (k : List UInt8) (c : Nat) (n : List UInt8) : bkS (bkW k c n) = bkL k c n := rfl

set_option maxRecDepth 100000 in
set_option maxHeartbeats 4000000 in
theorem sblock_any (A : Array Value) (l : List Nat) (hl : W16 l) (hA : A = ((nI l).map (Value.int .u32)).toArray) (w : World) (hT : PlT w) :
  Calls Tryd.prog 59 #[.agg A] w fun e w' => ∃ r, e = .returned r ∧ New 5 w r (bkS l) w' := by
 obtain ⟨ti, hti, hz0, hz1, hz2⟩ := info_parts info5
 have HT : Hid (PlT w) := hT
 have HW : Hid (W16 l) := hl
 go_enter Tryd.func59, Tryd.ntmps59
 go_wp2_with (refine wpList_box_row (k := .u32) rfl 80 _ rfl (nI l) (by rw [← hA]; rfl) hl.ne (wdMax hl) ?_)
 intro w1 r1 b1 s1
 rw [hl.len] at r1
 have n1 : w.heap.size < w1.heap.size := by have := s1.out; omega
 clear hT hA
 go_wp2_with (refine wpList_load_row rfl 80 _ rfl rfl r1 _ Tryd.underlying80 rfl (wdInfo hl) ?_)
 refine (mixed_any _ l hl rfl _ (HT.out.kept b1)).mono ?_
 rintro e w2 ⟨rfl, b2⟩
 have hV : W16 (qDbl l 10) := qDbl_ok hl 10
 have HF : Hid (bkS l = wB (fun i => ((qDbl l 10).getD i 0 + l.getD i 0) % 4294967296) 16) := by show _ = _; rfl
 generalize qDbl l 10 = V at hV HF ⊢
 replace r1 := r1.kept b2
 have hbw := stepB b1 b2
 have n2 := b2.size
 clear b1 b2 s1
 go_wp2_with (refine wpList_alloc_row (k := .u32) rfl 80 rfl (nI z16) (alloc_wd _) z16_ok.ne (wdMax z16_ok) ?_)
 intro w3 r3 b3 s3
 rw [z16_ok.len] at r3
 replace r1 := r1.kept b3
 replace hbw := stepB hbw b3
 clear b3 s3
 go_wp2_with (refine wpList_store_row rfl 80 _ _ rfl (nI V) rfl rfl r3 (by rw [z16_ok.len, hV.len]) (wdInfo z16_ok) ?_)
 intro w4 r4 hw4
 replace r1 := r1.wrote hw4 (by omega)
 replace hbw := hw4.below _ _ (by omega) hbw
 clear r3 hw4
 have hcv : ∀ j, j < 16 → w4.cell? ⟨w2.heap.size, j, none⟩ = some (.int .u32 ((V.getD j 0 : Nat) : Int)) := fun j hj => by
  have := r4.cell (j := j) (by rw [hV.len]; exact hj)
  rw [nI_get] at this
  exact this
 have hcw : ∀ j, j < 16 → w4.cell? ⟨w.heap.size, j, none⟩ = some (.int .u32 ((l.getD j 0 : Nat) : Int)) := fun j hj => by
  have := r1.cell (j := j) (by rw [hl.len]; exact hj)
  rw [nI_get] at this
  exact this
 have HCV : Hid _ := hcv
 have HCW : Hid _ := hcw
 have HV : Hid (W16 V) := hV
 clear hcv hcw r1 r4 hl hV
 go_wp2_with (at_make; go_must (refine wpList_make_own _ rfl _ _ 22 rfl w4.heap.size 5 ti _ 1 Tryd.underlying22 hti hz0 hz1 _ _ _ 64 rfl rfl rfl (by rw [hz2]; omega) (by unfold maxLen; omega) (Nat.le_refl _) ?_))
 intro w5 hown hgr
 have hN0 : New 5 w4 _ (wB (fun i => (V.getD i 0 + l.getD i 0) % 4294967296) 0) w5 := ⟨hown, (Below.refl _ _).grown hgr (Nat.le_refl _) (by simp)⟩
 clear hown hgr
 go_wp2
 go_loopw [4, 9] (fun v iv wx => ∃ i : Nat, i ≤ 16 ∧ iv = .int .i64 (i : Int) ∧ New 5 w4 v (wB (fun i => (V.getD i 0 + l.getD i 0) % 4294967296) i) wx) (fun _ iv _ => 16 - (intOf iv).toNat)
 case atStart => exact ⟨0, by omega, rfl, hN0⟩
 case round =>
  obtain ⟨i, hi, rfl, hN⟩ := hrel
  clear hN0
  by_cases hlt : i < 16
  ·have hd : decide ((i : Int) < 16) = true := decide_eq_true (by omega)
   have hiI : (i : Int) < 16 := by omega
   have cv1 := HCV.out i hlt
   have cw1 := HCW.out i hlt
   have b1 := HV.out.get i
   have b2 := HW.out.get i
   obtain ⟨z, hz⟩ : ∃ z : Nat, z = (V.getD i 0 + l.getD i 0) % 4294967296 := ⟨_, rfl⟩
   have HNx : Hid (wB (fun i => (V.getD i 0 + l.getD i 0) % 4294967296) i ++ (List.range 4).map (stB z) = wB (fun i => (V.getD i 0 + l.getD i 0) % 4294967296) (i + 1)) := by
    show _ = _
    rw [hz]
    rfl
   have HLn : Hid ((wB (fun i => (V.getD i 0 + l.getD i 0) % 4294967296) i).length ≤ 100) := by
    show _ ≤ _
    rw [wB_length]
    omega
   generalize wB (fun i => (V.getD i 0 + l.getD i 0) % 4294967296) i = L0 at hN HNx HLn
   obtain ⟨L1, hL1⟩ : ∃ L : List UInt8, L = wB (fun i => (V.getD i 0 + l.getD i 0) % 4294967296) (i + 1) := ⟨_, rfl⟩
   rw [← hL1] at HNx
   have HL1 : Hid _ := hL1
   clear hL1
   generalize V.getD i 0 = p at cv1 b1 hz
   generalize l.getD i 0 = q at cw1 b2 hz
   have e1 : IntKind.u32.wrap ((p : Int) + (q : Int)) = (z : Int) := by rw [IntKind.wrap_u32']; omega
   have e2 : ((p : Int) + (q : Int)) % 4294967296 = (z : Int) := by omega
   have e3 : IntKind.u64.wrap (z : Int) = (z : Int) := by rw [IntKind.wrap_u64]; omega
   obtain ⟨zs, hzs⟩ : ∃ zs : List UInt8, zs = (List.range 4).map (stB z) := ⟨_, rfl⟩
   have hzl4 : zs.length = 4 := by rw [hzs]; simp
   rw [← hzs] at HNx
   have HZS : Hid _ := hzs
   have HZ4 : Hid _ := hzl4
   clear hz hzs hzl4
   go_wp2_with fail
   refine wpB_begin hN.2 (by kernel_rfl) ?_
   refine wpB_t (hb := (Below.drew hN.2)) (i := 0) (oi := ⟨some 12, .move (.tmp 4), 22, "chacha.go:87", #[], none⟩) (v := ?_) ?_ ?_
   rotate_left
   ·intro W hW; go_simp <;> with_reducible rfl
   try simp only [Act.put, putA, putB, putC]
   refine wpB_t (hb := (Below.drew hN.2)) (i := 1) (oi := ⟨some 13, .move (.tmp 5), 3, "chacha.go:87", #[], none⟩) (v := ?_) ?_ ?_
   rotate_left
   ·intro W hW; go_simp <;> with_reducible rfl
   try simp only [Act.put, putA, putB, putC]
   refine wpB_t (hb := (Below.drew hN.2)) (i := 2) (oi := ⟨some 14, .indexAddr 80 (.tmp 3) (.tmp 13), 0, "chacha.go:87", #[⟨1, .data⟩], none⟩) (v := ?_) ?_ ?_
   rotate_left
   ·intro W hW; go_simp <;> with_reducible rfl
   try simp only [Act.put, putA, putB, putC]
   refine wpB_t (hb := (Below.drew hN.2)) (i := 3) (oi := ⟨some 15, .load 70 (.tmp 14), 70, "chacha.go:87", #[⟨2, .data⟩], none⟩) (v := ?_) ?_ ?_
   rotate_left
   ·intro W hW; have hcW := cellK0 cv1 hW; go_simp <;> with_reducible rfl
   try simp only [Act.put, putA, putB, putC]
   refine wpB_t (hb := (Below.drew hN.2)) (i := 4) (oi := ⟨some 16, .move (.tmp 5), 3, "chacha.go:87", #[], none⟩) (v := ?_) ?_ ?_
   rotate_left
   ·intro W hW; go_simp <;> with_reducible rfl
   try simp only [Act.put, putA, putB, putC]
   refine wpB_t (hb := (Below.drew hN.2)) (i := 5) (oi := ⟨some 17, .indexAddr 80 (.tmp 1) (.tmp 16), 0, "chacha.go:87", #[⟨4, .data⟩], none⟩) (v := ?_) ?_ ?_
   rotate_left
   ·intro W hW; go_simp <;> with_reducible rfl
   try simp only [Act.put, putA, putB, putC]
   refine wpB_t (hb := (Below.drew hN.2)) (i := 6) (oi := ⟨some 18, .load 70 (.tmp 17), 70, "chacha.go:87", #[⟨5, .data⟩], none⟩) (v := ?_) ?_ ?_
   rotate_left
   ·intro W hW; have hcW := cellK0 cw1 hW; go_simp <;> with_reducible rfl
   try simp only [Act.put, putA, putB, putC]
   refine wpB_t (hb := (Below.drew hN.2)) (i := 7) (oi := ⟨some 19, .binOp .add 70 (.tmp 15) (.tmp 18) 70, 70, "chacha.go:87", #[⟨3, .data⟩, ⟨6, .data⟩], none⟩) (v := ?_) ?_ ?_
   rotate_left
   ·intro W hW; go_simp <;> with_reducible rfl
   try simp only [Act.put, putA, putB, putC]
   refine wpB_t (hb := (Below.drew hN.2)) (i := 8) (oi := ⟨some 20, .convert 70 23 (.tmp 19), 23, "chacha.go:87", #[⟨7, .data⟩], none⟩) (v := ?_) ?_ ?_
   rotate_left
   ·intro W hW; go_simp <;> with_reducible rfl
   try simp only [Act.put, putA, putB, putC]
   refine wpB_do (i := 9) (o := ⟨some 21, .call { callee := .value (.func 43), args := #[.tmp 20, .const (.int .i64 4)], argTypes := #[23, 3] }, 22, "chacha.go:87", #[⟨8, .data⟩], none⟩) (by kernel_rfl) rfl (by rfl) fun K hK => ?_
   go_simp
   refine (store_k z 4 4 (by omega) (.inr (.inl ⟨by omega, by omega, rfl⟩)) _).mono ?_
   rintro e w5 ⟨v5, rfl, hN5⟩
   have hR5 := hN5.rd
   rw [← HZS.out] at hR5
   have hN6 := hN.drew.kept hN5.2
   refine hK.out _ _ hN6.2 ?_
   clear hK K
   try simp only [Act.put, putA, putB, putC]
   refine wpB_do (i := 10) (o := ⟨some 22, .call { callee := .builtin Builtin.append, args := #[.tmp 12, .tmp 21], argTypes := #[22, 22] }, 22, "chacha.go:87", #[⟨0, .data⟩, ⟨9, .data⟩, ⟨9, .chain⟩], none⟩) (by kernel_rfl) rfl (by rfl) fun K hK => ?_
   refine wp_append_new (w := w4) _ _ 22 (by rfl) 5 Tryd.underlying22 info5 _ _ (by rfl) hN6 _ _ (by rfl) hR5 (by have := HLn.out; rw [HZ4.out]; omega) ?_
   intro v7 w7 hN7 _
   rw [HNx.out] at hN7
   refine hK.out _ _ hN7.2 ?_
   clear hK K
   try simp only [Act.put, putA, putB, putC]
   refine wpB_t (hb := hN7.2) (i := 11) (oi := ⟨some 4, .assign (.tmp 22), 22, "chacha.go:87", #[⟨10, .data⟩, ⟨10, .chain⟩, ⟨0, .phase⟩, ⟨1, .phase⟩, ⟨2, .phase⟩, ⟨3, .phase⟩, ⟨4, .phase⟩, ⟨5, .phase⟩, ⟨6, .phase⟩, ⟨7, .phase⟩, ⟨8, .phase⟩, ⟨9, .phase⟩, ⟨10, .phase⟩], none⟩) (v := ?_) ?_ ?_
   rotate_left
   ·intro W hW; go_simp <;> with_reducible rfl
   try simp only [Act.put, putA, putB, putC]
   refine wpB_done (by kernel_rfl) ?_
   rw [HL1.out] at hN7
   clear hN hN5 hN6 hR5 cv1 cw1
   go_wp2
   go_roundw
   case rel => exact ⟨i + 1, by omega, by go_num, hN7⟩
   case measure => simp [intOf] <;> omega
  ·have hie : i = 16 := by omega
   have hd : decide ((i : Int) < 16) = false := decide_eq_false (by omega)
   have hiI : (16 : Int) ≤ (i : Int) := by omega
   rw [hie, ← HF.out] at hN
   clear hie
   go_wp2
   go_ret
   exact ⟨_, rfl, hN.from hbw⟩

set_option maxRecDepth 100000 in
set_option maxHeartbeats 2000000 in
theorem block_any (vk vn : Value) (k n : List UInt8) (c : Nat) (C : Int) (hC : C = (c : Int)) (hc : c < 4294967296) (w : World) (hT : PlT w) (hk : Rd w vk k) (hn : Rd w vn n) (hk32 : k.length = 32) (hn12 : n.length = 12) :
  Calls Tryd.prog 60 #[vk, .int .u32 C, vn] w fun e w' => ∃ r, e = .returned r ∧ New 5 w r (bkL k c n) w' := by
 subst hC
 have HD : Hid (decide (k.length = 32 ∧ n.length = 12) = true) := decide_eq_true ⟨hk32, hn12⟩
 have HK : Hid _ := hk
 have HN : Hid _ := hn
 have H1 : Hid _ := hk32
 have H2 : Hid _ := hn12
 have HT : Hid (PlT w) := hT
 have HC : Hid _ := hc
 clear hk hn hk32 hn12 hT hc
 go_enter Tryd.func60, Tryd.ntmps60
 go_wp2_with fail
 refine (fit_any _ _ k n _ HK.out HN.out).mono ?_
 rintro e w2 ⟨rfl, rfl⟩
 rw [HD.out]
 go_wp2_with fail
 refine (start_any _ _ k n c _ rfl HC.out _ HK.out HN.out H1.out H2.out).mono ?_
 rintro e w2 ⟨rfl, b2⟩
 go_wp2_with fail
 refine (sblock_any _ (bkW k c n) (bkW_ok k c n) rfl _ (PlT.kept HT.out b2)).mono ?_
 rintro e w3 ⟨r, rfl, hN⟩
 rw [bkS_bkL] at hN
 go_wp2
 go_ret
 exact ⟨_, rfl, hN.from b2⟩

def rowLen : Value → Nat
 | .slice _ n _ => n
 | _ => 0
theorem smP_block (key : List UInt8) (c : Nat) (nonce b : List UInt8) (j : Nat) (h : 64 * j ≤ b.length) :
  smP key c nonce b (64 * j) ++ xorL (b.drop (64 * j)) (bkL key (c + j) nonce) = smP key c nonce b (min (64 * (j + 1)) b.length) := by
 refine ext_getD (by rw [List.length_append, smP_length, smP_length, xorL_length, List.length_drop, bkL_length]; omega) fun i hi => ?_
 rw [List.length_append, smP_length, xorL_length, List.length_drop, bkL_length] at hi
 rw [getD_append, smP_length]
 have hm : i < min (64 * (j + 1)) b.length := by omega
 have e2 : (smP key c nonce b (min (64 * (j + 1)) b.length)).getD i 0 = b.getD i 0 ^^^ ksB key c nonce i := by
  unfold smP
  simp only [List.getD_eq_getElem?_getD, List.getElem?_map]
  rw [List.getElem?_range hm]
  simp
 rw [e2]
 split
 ·rename_i h3
  unfold smP
  simp only [List.getD_eq_getElem?_getD, List.getElem?_map]
  rw [List.getElem?_range h3]
  simp
 ·rename_i h3
  have e3 : (xorL (b.drop (64 * j)) (bkL key (c + j) nonce)).getD (i - 64 * j) 0 = (b.drop (64 * j)).getD (i - 64 * j) 0 ^^^ (bkL key (c + j) nonce).getD (i - 64 * j) 0 := by
   unfold xorL
   have hx : i - 64 * j < min (b.drop (64 * j)).length (bkL key (c + j) nonce).length := by rw [List.length_drop, bkL_length]; omega
   simp only [List.getD_eq_getElem?_getD, List.getElem?_map]
   rw [List.getElem?_range hx]
   simp
  have a1 : (b.drop (64 * j)).getD (i - 64 * j) 0 = b.getD i 0 := by
   have : 64 * j + (i - 64 * j) = i := by omega
   simp [this]
  have a2 : (bkL key (c + j) nonce).getD (i - 64 * j) 0 = ksB key c nonce i := by
   unfold ksB
   rw [show i / 64 = j by omega, show i % 64 = i - 64 * j by omega]
  rw [e3, a1, a2]
theorem bkW_count (k : List UInt8) (c : Nat) (n : List UInt8) : (bkW k c n).getD 12 0 = c % 4294967296 := rfl

set_option maxRecDepth 100000 in
set_option maxHeartbeats 2000000 in
theorem stream_arg (vk vn vb : Value) (k n : List UInt8) (C : Int) (w : World) (hk : Rd w vk k) (hn : Rd w vn n) (h : ¬ (k.length = 32 ∧ n.length = 12)) :
  Calls Tryd.prog 44 #[vk, .int .u32 C, vn, vb] w fun e w' => e = .returned (.slice none 0 0) ∧ w' = w := by
 have hd : decide (k.length = 32 ∧ n.length = 12) = false := decide_eq_false h
 have HD : Hid _ := hd
 have HK : Hid _ := hk
 have HN : Hid _ := hn
 clear hd h hk hn
 go_enter Tryd.func44, Tryd.ntmps44
 go_wp2_with fail
 refine (fit_any _ _ k n _ HK.out HN.out).mono ?_
 rintro e w2 ⟨rfl, rfl⟩
 rw [HD.out]
 go_wp2
 go_ret
 exact ⟨rfl, rfl⟩

set_option maxRecDepth 100000 in
set_option maxHeartbeats 4000000 in
theorem stream_any (vk vn vb : Value) (k n b : List UInt8) (c : Nat) (C : Int) (hC : C = (c : Int)) (hc : c < 4294967296) (w : World) (hT : PlT w) (hk : Rd w vk k) (hn : Rd w vn n) (hb : Rd w vb b) (hk32 : k.length = 32) (hn12 : n.length = 12) (hbl : b.length ≤ 100000000) :
  Calls Tryd.prog 44 #[vk, .int .u32 C, vn, vb] w fun e w' => ∃ r, e = .returned r ∧ New 5 w r (smL k c n b) w' := by
 subst hC
 obtain ⟨ti, hti, hz0, hz1, hz2⟩ := info_parts info5
 have HD : Hid (decide (k.length = 32 ∧ n.length = 12) = true) := decide_eq_true ⟨hk32, hn12⟩
 have HK : Hid _ := hk
 have HN : Hid _ := hn
 have H1 : Hid _ := hk32
 have H2 : Hid _ := hn12
 have HT : Hid (PlT w) := hT
 have HC : Hid _ := hc
 obtain ⟨ab, cb, rfl, hcb, hmb, -, -⟩ := id hb
 obtain ⟨L, hL⟩ : ∃ L : Nat, L = b.length := ⟨_, rfl⟩
 rw [← hL] at hb hbl hcb ⊢
 have HB : Hid (Rd w (.slice ab L cb) b) := hb
 have HL : Hid _ := hL
 unfold maxLen at hmb
 clear hk hn hk32 hn12 hT hc hb hL
 go_enter Tryd.func44, Tryd.ntmps44
 go_wp2_with fail
 refine (fit_any _ _ k n _ HK.out HN.out).mono ?_
 rintro e w ⟨rfl, rfl⟩
 rw [HD.out]
 go_wp2_with fail
 refine (start_any _ _ k n c _ rfl HC.out _ HK.out HN.out H1.out H2.out).mono ?_
 rintro e w2 ⟨rfl, b2⟩
 have h0 : W16 (bkW k c n) := bkW_ok k c n
 obtain ⟨B0, hB0⟩ : ∃ l : List Nat, l = bkW k c n := ⟨_, rfl⟩
 rw [← hB0] at h0 ⊢
 have HB0 : Hid _ := hB0
 clear hB0
 go_wp2_with (first | refine wpList_alloc_row (k := .u32) rfl 80 rfl (nI z16) (alloc_wd _) z16_ok.ne (wdMax z16_ok) ?_)
 intro w3 r3 b3 s3
 rw [z16_ok.len] at r3
 have hbw := stepB b2 b3
 have n2 := b2.size
 have n3 : w2.heap.size < w3.heap.size := by have := s3.out; omega
 clear b2 b3 s3
 go_wp2_with (first | (at_make; fail) | refine wpList_store_row rfl 80 _ _ rfl (nI B0) rfl rfl r3 (by rw [z16_ok.len, h0.len]) (wdInfo z16_ok) ?_)
 intro w4 r4 hw4
 replace hbw := hw4.below _ _ (by omega) hbw
 have n4 : w2.heap.size < w4.heap.size := by have := hw4.size; omega
 clear r3 hw4
 go_wp2_with (at_make; go_must (refine wpList_make_own _ rfl _ _ 22 rfl w4.heap.size 5 ti _ 1 Tryd.underlying22 hti hz0 hz1 _ _ _ L rfl rfl rfl (by rw [hz2]; omega) (by unfold maxLen; omega) (Nat.le_refl _) ?_))
 intro w5 hown hgr
 have hO5 : w5.ownsRow w4.heap.size 5 1 (.slice (some ⟨w4.heap.size, 0, none⟩) 0 L) (smP k c n b 0).length ((smP k c n b 0).map bv) := hown
 have b5 : Below w4.heap.size w4 w5 := (Below.refl _ _).grown hgr (Nat.le_refl _) (by simp)
 have r5 := r4.kept b5
 rw [HB0.out] at r5
 have n5 := b5.size
 have hbw5 := stepB hbw b5
 clear hown hgr r4 hbw b5
 have HZ : Hid (64 * 0 = min (64 * 0) L) := by show _ = _; omega
 go_wp2
 go_loopw [10] (fun v wx => ∃ j : Nat, wx.ownsRow w4.heap.size 5 1 v (smP k c n b (min (64 * j) L)).length ((smP k c n b (min (64 * j) L)).map bv) ∧ RowAt .u32 80 w2.heap.size 16 (nI (bkW k (c + j) n)) wx ∧ Below w.heap.size w wx ∧ w4.heap.size ≤ wx.heap.size) (fun v _ => L - rowLen v)
 case atStart => exact ⟨0, by rw [← HZ.out]; exact hO5, r5, hbw5, n5⟩
 case round =>
  obtain ⟨j, hO, rs, hbx, nx⟩ := hrel
  clear hO5 r5 hbw5 n5 HZ h0
  have hRo := Rd.of_row hO
  obtain ⟨ao, co, rfl, -, hmo, -, -⟩ := id hRo
  unfold maxLen at hmo
  obtain ⟨i, hi⟩ : ∃ i : Nat, i = min (64 * j) L := ⟨_, rfl⟩
  rw [← hi, smP_length] at hO ⊢
  have hO1 : wr.ownsRow w4.heap.size 5 1 (.slice ao i co) (smP k c n b i).length ((smP k c n b i).map bv) := by
   rw [smP_length]
   exact hO
  clear hO hRo
  by_cases hlt : i < L
  ·have hd : decide ((i : Int) < (L : Int)) = true := decide_eq_true (by omega)
   have hiI : (i : Int) < (L : Int) := by omega
   have hij : i = 64 * j := by omega
   obtain ⟨gb, ob, c', ev, -, -, -⟩ := HB.out.cellAt (i := 0) (by have := HL.out; omega)
   simp only [Value.slice.injEq] at ev
   obtain ⟨rfl, -, rfl⟩ := ev
   have hsub := (Rd.kept HB.out hbx).sub i L (by omega) (Nat.le_refl _)
   rw [List.take_of_length_le (by rw [List.length_drop, ← HL.out]; omega)] at hsub
   have hSW : W16 (bkW k (c + j) n) := bkW_ok k (c + j) n
   have HNx : Hid (smP k c n b i ++ xorL (b.drop i) (bkS (bkW k (c + j) n)) = smP k c n b (min (64 * (j + 1)) L)) := by
    show _ = _
    rw [bkS_bkL, hij, smP_block _ _ _ _ _ (by rw [← HL.out]; omega), HL.out]
   obtain ⟨x, hx⟩ : ∃ x : Nat, x = (bkW k (c + j) n).getD 12 0 := ⟨_, rfl⟩
   obtain ⟨y, hy⟩ : ∃ y : Nat, y = (c + (j + 1)) % 4294967296 := ⟨_, rfl⟩
   have hxy : ((x : Int) + 1) % 4294967296 = (y : Int) := by
    rw [bkW_count] at hx
    omega
   have hxw : IntKind.u32.wrap ((x : Int) + 1) = (y : Int) := by rw [IntKind.wrap_u32']; exact hxy
   have HSt : Hid (nI ((bkW k (c + j) n).set 12 y) = nI (bkW k (c + (j + 1)) n)) := by
    show _ = _
    rw [hy]
    rfl
   have hlS : (nI (bkW k (c + j) n)).length = 16 := hSW.len
   have HlS : Hid _ := hlS
   have HX : Hid _ := hx
   have HI : Hid _ := hi
   have HIJ : Hid _ := hij
   have HLb : Hid ((b.drop i).length ≤ 100000000) := by
    show _ ≤ _
    rw [List.length_drop, ← HL.out]
    omega
   have HLp : Hid ((smP k c n b i).length + (xorL (b.drop i) (bkS (bkW k (c + j) n))).length ≤ 200000000) := by
    show _ ≤ _
    rw [smP_length, xorL_length, List.length_drop, ← HL.out]
    omega
   generalize bkW k (c + j) n = S at rs hSW HNx HSt HlS HX HLp
   have ym1 : ¬ cb = i := by omega
   have ym2 : i ≤ L := by omega
   have ym3 : (i : Int) ≤ (L : Int) := by omega
   have ym4 : (L : Int) ≤ (cb : Int) := by omega
   clear hlS hx hy hi hij
   go_wp2_with fail
   have hB : Below wr.heap.size wr wr.drew := (Below.refl _ _).drew
   have hS : RowAt .u32 80 w2.heap.size 16 (nI S) wr.drew := rs.drew
   refine wpS_begin (fun W => RowAt .u32 80 w2.heap.size 16 (nI S) W) (by kernel_rfl) ?_
   refine wpS_take (hS := hS) (i := 0) (oi := ⟨some 27, .move (.tmp 10), 22, "chacha.go:112", #[], none⟩) (v := ?_) rfl (by kernel_rfl) (by kernel_rfl) (by kernel_rfl) (by rfl) ?_ ?_
   rotate_left
   ·intro W hW; go_simp <;> with_reducible rfl
   try simp only [Act.put, putA, putB, putC]
   refine wpS_take (hS := hS) (i := 1) (oi := ⟨some 28, .move (.tmp 3), 22, "chacha.go:112", #[], none⟩) (v := ?_) rfl (by kernel_rfl) (by kernel_rfl) (by kernel_rfl) (by rfl) ?_ ?_
   rotate_left
   ·intro W hW; go_simp <;> with_reducible rfl
   try simp only [Act.put, putA, putB, putC]
   refine wpS_take (hS := hS) (i := 2) (oi := ⟨some 29, .move (.tmp 10), 22, "chacha.go:112", #[], none⟩) (v := ?_) rfl (by kernel_rfl) (by kernel_rfl) (by kernel_rfl) (by rfl) ?_ ?_
   rotate_left
   ·intro W hW; go_simp <;> with_reducible rfl
   try simp only [Act.put, putA, putB, putC]
   refine wpS_take (hS := hS) (i := 3) (oi := ⟨some 30, .call { callee := .builtin Builtin.len, args := #[.tmp 29], argTypes := #[22] }, 3, "chacha.go:112", #[⟨2, .data⟩], none⟩) (v := ?_) rfl (by kernel_rfl) (by kernel_rfl) (by kernel_rfl) (by rfl) ?_ ?_
   rotate_left
   ·intro W hW; go_simp <;> with_reducible rfl
   try simp only [Act.put, putA, putB, putC]
   refine wpS_take (hS := hS) (i := 4) (oi := ⟨some 31, .slice 22 (.tmp 28) (some (.tmp 30)) none none, 22, "chacha.go:112", #[⟨1, .data⟩, ⟨3, .data⟩], none⟩) (v := ?_) rfl (by kernel_rfl) (by kernel_rfl) (by kernel_rfl) (by rfl) ?_ ?_
   rotate_left
   ·intro W hW; go_simp <;> with_reducible rfl
   try simp only [Act.put, putA, putB, putC]
   refine wpS_take (hS := hS) (i := 5) (oi := ⟨some 32, .load 80 (.tmp 9), 80, "chacha.go:112", #[], none⟩) (v := ?_) rfl (by kernel_rfl) (by kernel_rfl) (by kernel_rfl) (by rfl) ?_ ?_
   rotate_left
   ·intro W hW; refine Eq.trans (exec_load_row' 80 _ (by rfl) (by rfl) hW (Below.refl _ _) _ Tryd.underlying80 rfl (wdInfo hSW)) ?_; with_reducible rfl
   try simp only [Act.put, putA, putB, putC]
   refine wpS_do (i := 6) (o := ⟨some 33, .call { callee := .value (.func 59), args := #[.tmp 32], argTypes := #[80] }, 22, "chacha.go:112", #[⟨5, .data⟩], none⟩) (by kernel_rfl) rfl (by rfl) fun K hK => ?_
   go_simp
   refine (sblock_any _ S hSW rfl _ (PlT.kept HT.out (stepB hbx (Below.refl _ _).drew))).mono ?_
   rintro e w6 ⟨vB, rfl, hN6⟩
   replace hB := stepB hB hN6.2
   replace hS := hS.kept hN6.2
   refine hK.out _ _ hS ?_
   clear hK K
   try simp only [Act.put, putA, putB, putC]
   refine wpS_do (i := 7) (o := ⟨some 34, .call { callee := .value (.func 58), args := #[.tmp 31, .tmp 33], argTypes := #[22, 22] }, 22, "chacha.go:112", #[⟨4, .data⟩, ⟨6, .data⟩, ⟨6, .chain⟩], none⟩) (by kernel_rfl) rfl (by rfl) fun K hK => ?_
   go_simp
   refine (xor_any _ _ _ _ _ (hsub.kept hB) hN6.rd (by have := HLb.out; omega)).mono ?_
   rintro e w7 ⟨vX, rfl, hN7⟩
   replace hB := stepB hB hN7.2
   replace hS := hS.kept hN7.2
   have hO7 := ownsRow_below hO1 hB
   have hn7 := hB.size
   have hlow : ∀ g, some g = (Value.slice ao i co).ownBlock → w4.heap.size ≤ g := fun g e => (hO7.lt g e.symm).1
   refine hK.out _ _ hS ?_
   clear hK K
   try simp only [Act.put, putA, putB, putC]
   refine wpS_do (i := 8) (o := ⟨some 35, .call { callee := .builtin Builtin.append, args := #[.tmp 27, .tmp 34], argTypes := #[22, 22] }, 22, "chacha.go:112", #[⟨0, .data⟩, ⟨7, .data⟩, ⟨7, .chain⟩], none⟩) (by kernel_rfl) rfl (by rfl) fun K hK => ?_
   refine wp_append_base (base := w4.heap.size) _ _ 22 (by rfl) 5 Tryd.underlying22 info5 _ _ (by rfl) hO7 (by omega) _ _ (by rfl) hN7.rd (by have := HLp.out; omega) ?_
   intro v8 w8 hO8 hg8 _
   rw [HNx.out] at hO8
   replace hS := hS.chg (Chg.of_grown hg8) (fun e => by have := hlow _ e; omega)
   refine hK.out _ _ hS ?_
   clear hK K
   try simp only [Act.put, putA, putB, putC]
   refine wpS_take (hS := hS) (i := 9) (oi := ⟨some 10, .assign (.tmp 35), 22, "chacha.go:112", #[⟨8, .data⟩, ⟨8, .chain⟩, ⟨0, .phase⟩, ⟨1, .phase⟩, ⟨2, .phase⟩, ⟨3, .phase⟩, ⟨4, .phase⟩, ⟨5, .phase⟩, ⟨6, .phase⟩, ⟨7, .phase⟩, ⟨8, .phase⟩], none⟩) (v := ?_) rfl (by kernel_rfl) (by kernel_rfl) (by kernel_rfl) (by rfl) ?_ ?_
   rotate_left
   ·intro W hW; go_simp <;> with_reducible rfl
   try simp only [Act.put, putA, putB, putC]
   refine wpS_done (by kernel_rfl) ?_
   have rs8 := hS
   have hb8 := Chg.below (stepB hbx hB) (Chg.of_grown hg8) (by omega) (fun g _ e => by have := hlow _ e; omega)
   have n8 : w4.heap.size ≤ w8.heap.size := by have := hg8.size; omega
   have hR8 := Rd.of_row hO8
   obtain ⟨a8, c8, rfl, -, -, -, -⟩ := id hR8
   rw [smP_length] at hO8 ⊢
   have hc12 := rs8.cell (j := 12) (by rw [HlS.out]; decide)
   rw [nI_get, ← HX.out] at hc12
   have hf12 := rs8.free 12
   have hw9 := Wrote.set w2.heap.size 12 w8 (.int .u32 (y : Int))
   have rs9 := rs8.set 12 (y : Int)
   rw [nI_set, HSt.out] at rs9
   have hO9 := own_chg hO8 (Chg.of_wrote hw9) (fun g e1 e2 => by have := (hO8.lt g e1).1; omega)
   have hb9 := hw9.below _ _ (by omega) hb8
   have n9 := hw9.size
   have R9 : Hid _ := rs9
   have O9 : Hid _ := hO9
   have B9 : Hid _ := hb9
   have N9 : Hid _ := n9
   clear hO1 rs hbx hsub hN6 hN7 hO7 hB hS hlow hg8 rs8 hb8 hR8 hO8 rs9 hO9 hb9 n9 hw9
   go_wp2
   go_roundw
   case rel => exact ⟨j + 1, by rw [smP_length]; exact O9.out, R9.out, B9.out, by have := N9.out; omega⟩
   case measure =>
    have h1 := HI.out
    have h2 := HIJ.out
    simp [rowLen]
    omega
  ·have hd : decide ((i : Int) < (L : Int)) = false := decide_eq_false (by omega)
   have hiI : (L : Int) ≤ (i : Int) := by omega
   have hiL : i = L := by omega
   have hN : New 5 w (.slice ao i co) (smL k c n b) wr := by
    refine ⟨own_mono (base := w4.heap.size) ?_ (by omega), hbx⟩
    rw [← smP_all, ← HL.out, ← hiL]
    exact hO1
   clear hiL hO1 rs hbx hi
   go_wp2
   go_ret
   exact ⟨_, rfl, hN⟩
structure Cap (ty e : TypeId) (w0 : World) (g : Nat) (v : Value) (l : List UInt8) (w : World) : Prop where
 var : BlkAt g ty [v] w
 row : w.ownsRow w0.heap.size e 1 v l.length (l.map bv)
 ge : w0.heap.size ≤ g
 below : Below w0.heap.size w0 w
theorem Cap.apart {ty e : TypeId} {g : Nat} {v u : Value} {l : List UInt8} {base : Nat} {w : World} (hv : BlkAt g ty [u] w) (hr : w.ownsRow base e 1 v l.length (l.map bv)) (hne : ty ≠ e) : v.ownBlock ≠ some g := by
 rcases hr.2 with ⟨rfl, h0⟩ | ⟨g', cap, cur, rfl, hb, hg, hn, hm, hs, ht⟩
 ·simp [Value.ownBlock]
 ·intro h
  have h1 : g' = g := by simpa [Value.ownBlock] using h
  subst h1
  unfold BlkAt at hv
  rw [hg] at hv
  simp at hv
  exact hne hv.2.symm
theorem Cap.rd {ty e : TypeId} {w0 w : World} {g : Nat} {v : Value} {l : List UInt8} (h : Cap ty e w0 g v l w) : Rd w v l := Rd.of_row h.row
theorem Cap.kept {ty e : TypeId} {w0 w w' : World} {g : Nat} {v : Value} {l : List UInt8} (h : Cap ty e w0 g v l w) (hb : Below w.heap.size w w') : Cap ty e w0 g v l w' :=
 ⟨h.var.kept hb, ownsRow_below h.row hb, h.ge, stepB h.below hb⟩
theorem Cap.cell {ty e : TypeId} {w0 w : World} {g : Nat} {v : Value} {l : List UInt8} (h : Cap ty e w0 g v l w) : w.cell? ⟨g, 0, none⟩ = some v := by rw [h.var.cell]; rfl
theorem Cap.free {ty e : TypeId} {w0 w : World} {g : Nat} {v : Value} {l : List UInt8} (h : Cap ty e w0 g v l w) : w.frozen? ⟨g, 0, none⟩ = false := h.var.free 0
theorem Cap.grow {ty e : TypeId} {w0 w w1 : World} {g : Nat} {v v' : Value} {l l' : List UInt8} (h : Cap ty e w0 g v l w) (hne : ty ≠ e) (h1 : w1.ownsRow w0.heap.size e 1 v' l'.length (l'.map bv)) (hg : w.grownBy w1 v.ownBlock) :
  w1.cell? ⟨g, 0, none⟩ = some v ∧ w1.frozen? ⟨g, 0, none⟩ = false ∧ Cap ty e w0 g v' l' (w1.setCell ⟨g, 0, none⟩ v') := by
 have hb1 : BlkAt g ty [v] w1 := h.var.chg (Chg.of_grown hg) fun e => Cap.apart h.var h.row hne e.symm
 refine ⟨by rw [hb1.cell]; rfl, hb1.free 0, hb1.set 0 v', own_chg h1 (Chg.of_wrote (Wrote.set g 0 w1 v')) fun g' hg' e => ?_, h.ge, ?_⟩
 ·subst e
  exact Cap.apart hb1 h1 hne hg'
 ·have hb2 : Below w0.heap.size w0 w1 := h.below.grown hg h.below.size fun k hk => (h.row.lt k hk).1
  exact (Wrote.set g 0 w1 v').below _ _ h.ge hb2
def lenC (w : World) (g : Nat) : Nat := match w.cell? ⟨g, 0, none⟩ with
 | some v => lenOf v
 | none => 0
theorem Cap.len {ty e : TypeId} {w0 w : World} {g : Nat} {v : Value} {l : List UInt8} (h : Cap ty e w0 g v l w) : lenC w g = l.length := by
 unfold lenC
 rw [h.cell]
 obtain ⟨a, c, rfl, -⟩ := h.rd
 rfl

set_option maxRecDepth 100000 in
set_option maxHeartbeats 1000000 in
theorem cfill_any (vb v : Value) (b l : List UInt8) (g : Nat) (w0 w : World) (hl : l.length + b.length ≤ 100000000000) (hC : Cap 22 5 w0 g v l w) (hb : Rd w vb b) :
  Calls Tryd.prog 78 #[vb, .pointer (some ⟨g, 0, none⟩)] w fun e w' => e = .returned (.tuple #[]) ∧ ∃ v', Cap 22 5 w0 g v' (flL (l ++ b)) w' := by
 have HL : Hid (l.length + b.length ≤ 100000000000) := hl
 have hc0 := hC.cell
 clear hl
 go_enter Tryd.func78, Tryd.ntmps78
 go_wp2_with (at_builtin; go_must (refine wpList_append_base rfl _ _ 22 rfl 5 Tryd.underlying22 infoU8 _ _ rfl hC.row hC.below.size _ _ rfl hb (by have := HL.out; omega) ?_))
 intro v1 w1 h1 hg1 _
 obtain ⟨c1, f1, hC1⟩ := hC.grow (l' := l ++ b) (by decide) (by simpa using h1) hg1
 have HT : Hid ((l ++ b).length ≤ 100000000000) := by show _ ≤ _; rw [List.length_append]; exact HL.out
 obtain ⟨t, ht⟩ : ∃ t : List UInt8, t = l ++ b := ⟨_, rfl⟩
 rw [← ht] at hC1 HT
 have HE : Hid (t = l ++ b) := ht
 clear ht
 clear h1 hg1 hC hc0 hb HL
 obtain ⟨a1, k1, rfl, -⟩ := id hC1.rd
 go_wp2
 go_loopw [] (fun wx => ∃ (j : Nat) (v : Value), j ≤ pd16 t.length ∧ Cap 22 5 w0 g v (flJ t j) wx) (fun wx => pd16 t.length + t.length - lenC wx g)
 case atStart => exact ⟨0, _, Nat.zero_le _, by simpa [flJ] using hC1⟩
 case round =>
  obtain ⟨j, v2, hj, hC2⟩ := hrel
  clear hC1 c1 f1
  have c2 := hC2.cell
  obtain ⟨a, c, rfl, hc, hm, -, -⟩ := id hC2.rd
  unfold maxLen at hm
  have hlen : (flJ t j).length = t.length + j := flJ_length t j
  have HS : Hid (t.length + j + 1 ≤ 140737488355328) := by show _ ≤ _; have := HT.out; have := pd16_lt t.length; omega
  have HLC : Hid (lenC wr g = t.length + j) := by show _ = _; rw [hC2.len, hlen]
  obtain ⟨m, hm2⟩ : ∃ m : Nat, m = t.length + j := ⟨_, rfl⟩
  by_cases hlt : j < pd16 t.length
  ·have hd := pd16_on t.length j hlt
   rw [← hm2] at hd
   rw [hlen, ← hm2] at hC2 c2
   have HN : Hid (Cap 22 5 w0 g (.slice a m c) (flJ t j) wr) := hC2
   have HM : Hid _ := hm2
   clear hC2 hm hlen hm2 hc
   have hCx : ∀ o : Obj, Cap 22 5 w0 g (.slice a m c) (flJ t j) (wr.alloc o) := fun o => HN.out.kept (growB o)
   have hcx : ∀ o : Obj, (wr.alloc o).cell? ⟨g, 0, none⟩ = some (.slice a m c) := fun o => (hCx o).cell
   go_wp2_with (at_builtin; go_must (refine wpList_append_base rfl _ _ 22 rfl 5 Tryd.underlying22 infoU8 _ _ rfl (hCx _).row (hCx _).below.size _ _ rfl (Rd.lit1 (0 : UInt8) rfl) (by rw [flJ_length]; exact HS.out) ?_))
   intro v3 w3 h3 hg3 _
   obtain ⟨c3, f3, hC3⟩ := (hCx _).grow (l' := flJ t j ++ [(0 : UInt8)]) (by decide) (by simpa using h3) hg3
   rw [flJ_next] at hC3
   clear h3 hg3 hcx hCx c2
   obtain ⟨a3, k3, rfl, -⟩ := id hC3.rd
   go_wp2
   go_roundw
   case rel => exact ⟨j + 1, _, by omega, hC3⟩
   case measure => have := HM.out; have := HLC.out; rw [hC3.len, flJ_length]; omega
  ·have hje : j = pd16 t.length := by omega
   have hd := pd16_off t.length
   rw [← hje, ← hm2] at hd
   rw [hlen, ← hm2] at hC2 c2
   have HN : Hid (Cap 22 5 w0 g (.slice a m c) (flJ t j) wr) := hC2
   have HF : Hid (flL t = flJ t j) := by show _ = _; rw [hje]; rfl
   clear hC2 hm hlen
   go_wp2
   go_end0
   exact ⟨rfl, _, by rw [← HE.out, HF.out]; exact HN.out⟩

set_option maxHeartbeats 1000000 in
theorem alength_any (vb : Value) (b : List UInt8) (w : World) (hl : b.length ≤ 100000000000) (hb : Rd w vb b) :
  Calls Tryd.prog 79 #[vb] w fun e w' => ∃ r, e = .returned r ∧ New 5 w r (st8 b.length) w' := by
 obtain ⟨ab, cb, rfl, hcb, hmb, -, -⟩ := id hb
 have e1 : IntKind.u64.wrap (b.length : Int) = (b.length : Int) := by rw [IntKind.wrap_u64]; omega
 go_enter Tryd.func79, Tryd.ntmps79
 go_wp2_with fail
 refine (store_k b.length 8 8 (by decide) (by omega) _).mono ?_
 rintro e w1 ⟨v1, rfl, hN1⟩
 go_wp2
 go_ret
 exact ⟨_, rfl, hN1⟩
theorem afit_any (vk vn : Value) (k n : List UInt8) (w : World) (hk : Rd w vk k) (hn : Rd w vn n) :
  Calls Tryd.prog 49 #[vk, vn] w fun e w' => e = .returned (.bool (decide (k.length = 32 ∧ n.length = 12))) ∧ w' = w := by
 obtain ⟨ak, ck, rfl, hck, -, -⟩ := hk
 obtain ⟨an, cn, rfl, hcn, -, -⟩ := hn
 by_cases h : k.length = 32
 ·have HE : Hid (((n.length : Int) == 12) = decide (k.length = 32 ∧ n.length = 12)) := by
   show _ = _
   by_cases h2 : n.length = 12 <;> simp [h, h2] <;> omega
  have hd : ((k.length : Int) == 32) = true := by simp [h]
  go_enter Tryd.func49, Tryd.ntmps49
  go_wp2
  go_ret
  exact ⟨congrArg (fun b => Ending.returned (.bool b)) HE.out, rfl⟩
 ·have hd : ((k.length : Int) == 32) = false := by simp; omega
  have HE : Hid (false = decide (k.length = 32 ∧ n.length = 12)) := by
   show _ = _
   simp [h]
  go_enter Tryd.func49, Tryd.ntmps49
  go_wp2
  go_ret
  exact ⟨congrArg (fun b => Ending.returned (.bool b)) HE.out, rfl⟩
theorem pd16_mul (n m : Nat) (h : n % 16 = 0) : pd16 (n + m) = pd16 m := by unfold pd16; omega
theorem flL_mod (a : List UInt8) : (flL a).length % 16 = 0 := by rw [flL_length]; unfold pd16; omega
theorem flL_on (a b : List UInt8) (h : a.length % 16 = 0) : flL (a ++ b) = a ++ flL b := by
 unfold flL
 rw [List.length_append, pd16_mul _ _ h, List.append_assoc]
theorem flL_two (a b : List UInt8) : flL (flL a ++ b) = flL a ++ flL b := flL_on _ _ (flL_mod a)
theorem flL_tgI (a b : List UInt8) : flL (flL a ++ flL b ++ (st8 a.length ++ st8 b.length)) = tgI a b := by
 rw [flL_on _ _ (by rw [List.length_append]; have := flL_mod a; have := flL_mod b; omega)]
 have h : flL (st8 a.length ++ st8 b.length) = st8 a.length ++ st8 b.length := by
  unfold flL
  rw [List.length_append, st8_length, st8_length, show pd16 (8 + 8) = 0 from rfl, List.replicate_zero, List.append_nil]
 rw [h]
 unfold tgI
 simp only [List.append_assoc]

set_option maxRecDepth 100000 in
set_option maxHeartbeats 1000000 in
theorem covered_any (va vb : Value) (a b : List UInt8) (hla : a.length ≤ 3000000) (hlb : b.length ≤ 3000000) (w : World) (ha : Rd w va a) (hb : Rd w vb b) :
  Calls Tryd.prog 62 #[va, vb] w fun e w' => ∃ r, e = .returned r ∧ New 5 w r (tgI a b) w' := by
 obtain ⟨ti, hti, hz0, hz1, hz2⟩ := info_parts info5
 obtain ⟨aa, ca, rfl, hca, hma, -, -⟩ := id ha
 obtain ⟨ab, cb, rfl, hcb, hmb, -, -⟩ := id hb
 have HA : Hid (Rd w (.slice aa a.length ca) a) := ha
 have HB : Hid (Rd w (.slice ab b.length cb) b) := hb
 have hmf : ∀ (fn : Fn) (first cap : Array Value) (w : World), (Instr.makeFunc fn first cap).run Tryd.prog w = .ok (.func fn first cap) w := fun _ _ _ _ => rfl
 unfold maxLen at hma hmb
 clear ha hb
 go_enter Tryd.func62, Tryd.ntmps62
 go_wp2_with (at_make; go_must (refine wpList_make_own _ rfl _ _ 22 rfl w.heap.size 5 ti _ 1 Tryd.underlying22 hti hz0 hz1 _ _ _ (a.length + b.length + 48) rfl rfl (by omega) (by rw [hz2]; omega) (by unfold maxLen; omega) (Nat.le_refl _) ?_))
 intro w1 hown hgr
 have hR : w1.ownsRow w.heap.size 5 1 (.slice (some ⟨w.heap.size, 0, none⟩) 0 (a.length + b.length + 48)) ([] : List UInt8).length (([] : List UInt8).map bv) := hown
 have hb1 : Below w.heap.size w w1 := (Below.refl _ _).grown hgr (Nat.le_refl _) (by simp)
 have hC0 : Cap 22 5 w w1.heap.size (.slice (some ⟨w.heap.size, 0, none⟩) 0 (a.length + b.length + 48)) [] (w1.alloc (.cells #[.slice (some ⟨w.heap.size, 0, none⟩) 0 (a.length + b.length + 48)] 22)) :=
  ⟨BlkAt.fresh rfl rfl, ownsRow_below hR (growB _), hb1.size, stepB hb1 (growB _)⟩
 have HLA : Hid (a.length ≤ 3000000) := hla
 have HLB : Hid (b.length ≤ 3000000) := hlb
 have HP : Hid (pd16 a.length < 16 ∧ pd16 b.length < 16) := ⟨pd16_lt _, pd16_lt _⟩
 clear hown hgr hR hb1 hla hlb
 go_wp2_with fail
 refine (cfill_any _ _ a [] _ w _ (by have := HLA.out; simp; omega) hC0 (HA.out.kept hC0.below)).mono ?_
 rintro e w2 ⟨rfl, v2, hC2⟩
 rw [List.nil_append] at hC2
 clear hC0
 go_wp2_with fail
 refine (cfill_any _ _ b (flL a) _ w _ (by have := HLA.out; have := HLB.out; have := HP.out; rw [flL_length]; omega) hC2 (HB.out.kept hC2.below)).mono ?_
 rintro e w3 ⟨rfl, v3, hC3⟩
 rw [flL_two] at hC3
 clear hC2
 go_wp2_with fail
 refine (alength_any _ a _ (by have := HLA.out; omega) (HA.out.kept hC3.below)).mono ?_
 rintro e w4 ⟨v4, rfl, hN4⟩
 have hC4 := hC3.kept hN4.2
 have h4 := hN4.rd
 clear hC3 hN4
 go_wp2_with fail
 refine (alength_any _ b _ (by have := HLB.out; omega) (HB.out.kept hC4.below)).mono ?_
 rintro e w5 ⟨v5, rfl, hN5⟩
 have hC5 := hC4.kept hN5.2
 replace h4 := h4.kept hN5.2
 have h5 := hN5.rd
 clear hC4 hN5
 obtain ⟨a4, k4, rfl, -⟩ := id h4
 obtain ⟨a5, k5, rfl, -⟩ := id h5
 go_wp2_with fail
 refine (join_any _ _ _ _ (RdL.pair8 (e := 22) rfl h4 h5) (by simp [totL, st8_length])).mono ?_
 rintro e w6 ⟨v6, rfl, hN6⟩
 replace hN6 := hN6.pair8
 have hC6 := (hC5.kept (growB _)).kept hN6.2
 have h6 := hN6.rd
 clear hC5 hN6 h4 h5
 go_wp2_with fail
 refine (cfill_any _ _ _ (flL a ++ flL b) _ w _ (by have := HLA.out; have := HLB.out; have := HP.out; rw [List.length_append, List.length_append, flL_length, flL_length, st8_length, st8_length]; omega) hC6 h6).mono ?_
 rintro e w7 ⟨rfl, v7, hC7⟩
 rw [flL_tgI] at hC7
 have c7 := hC7.cell
 obtain ⟨a7, k7, rfl, -⟩ := id hC7.rd
 go_wp2
 go_ret
 exact ⟨_, rfl, hC7.row, hC7.below⟩
set_option maxHeartbeats 1000000 in
theorem atag_arg (vk vn va vb : Value) (k n : List UInt8) (h : ¬ (k.length = 32 ∧ n.length = 12)) (w : World) (hk : Rd w vk k) (hn : Rd w vn n) :
  Calls Tryd.prog 45 #[vk, vn, va, vb] w fun e w' => e = .returned (.tuple #[.slice none 0 0, .int .i64 1]) ∧ w' = w := by
 have hd : decide (k.length = 32 ∧ n.length = 12) = false := decide_eq_false h
 have HD : Hid _ := hd
 have HK : Hid (Rd w vk k) := hk
 have HN : Hid (Rd w vn n) := hn
 clear hd h hk hn
 go_enter Tryd.func45, Tryd.ntmps45
 go_wp2_with fail
 refine (afit_any _ _ k n _ HK.out HN.out).mono ?_
 rintro e w2 ⟨rfl, rfl⟩
 rw [HD.out]
 go_wp2
 go_ret2
 exact ⟨rfl, rfl⟩

set_option maxRecDepth 100000 in
set_option maxHeartbeats 2000000 in
theorem atag_any (vk vn va vb : Value) (k n a b : List UInt8) (hk32 : k.length = 32) (hn12 : n.length = 12) (hla : a.length ≤ 3000000) (hlb : b.length ≤ 3000000) (w : World) (hP : PlT w) (hT : KpT w) (hk : Rd w vk k) (hn : Rd w vn n) (ha : Rd w va a) (hb : Rd w vb b) :
  Calls Tryd.prog 45 #[vk, vn, va, vb] w fun e w' => ∃ r, e = .returned (.tuple #[r, .int .i64 0]) ∧ New 5 w r (tgL k n a b) w' := by
 have HD : Hid (decide (k.length = 32 ∧ n.length = 12) = true) := decide_eq_true ⟨hk32, hn12⟩
 have HK : Hid (Rd w vk k) := hk
 have HN : Hid (Rd w vn n) := hn
 have HA : Hid (Rd w va a) := ha
 have HB : Hid (Rd w vb b) := hb
 have H1 : Hid (k.length = 32) := hk32
 have H2 : Hid (n.length = 12) := hn12
 have HLA : Hid (a.length ≤ 3000000) := hla
 have HLB : Hid (b.length ≤ 3000000) := hlb
 have HP : Hid (PlT w) := hP
 have HT : Hid (KpT w) := hT
 clear hk32 hn12 hla hlb hP hT hk hn ha hb
 go_enter Tryd.func45, Tryd.ntmps45
 go_wp2_with fail
 refine (afit_any _ _ k n _ HK.out HN.out).mono ?_
 rintro e w ⟨rfl, rfl⟩
 rw [HD.out]
 go_wp2_with fail
 refine (block_any _ _ k n 0 _ rfl (by decide) _ HP.out HK.out HN.out H1.out H2.out).mono ?_
 rintro e w1 ⟨v1, rfl, hN1⟩
 have h1 := hN1.rd
 have hbw := hN1.2
 obtain ⟨a1, c1, rfl, hc1, hm1, -, -⟩ := id h1
 rw [bkL_length] at h1 hc1 ⊢
 have ht := h1.take (n := 32) (by decide)
 have HTL : Hid (((bkL k 0 n).take 32).length = 32) := by show _ = _; rw [List.length_take, bkL_length]; rfl
 have HE : Hid (tgL k n a b = mcP ((bkL k 0 n).take 32) (tgI a b)) := rfl
 generalize (bkL k 0 n).take 32 = K at ht HTL HE
 have HTk : Hid (Rd w1 _ K) := ht
 unfold maxLen at hm1
 have ym1 : (32 : Int) ≤ (c1 : Int) := by omega
 clear h1 hN1 ht
 go_wp2_with fail
 refine (covered_any _ _ a b HLA.out HLB.out _ (HA.out.kept hbw) (HB.out.kept hbw)).mono ?_
 rintro e w2 ⟨v2, rfl, hN2⟩
 have h2 := hN2.rd
 have ht := HTk.out.kept hN2.2
 replace hbw := stepB hbw hN2.2
 clear hN2 HTk
 go_wp2_with fail
 refine (pmac_any _ _ K (tgI a b) _ (HT.out.kept hbw) ht h2 HTL.out).mono ?_
 rintro e w3 ⟨v3, rfl, hN3⟩
 rw [← HE.out] at hN3
 go_wp2
 go_ret2
 exact ⟨_, rfl, hN3.from hbw⟩

set_option maxHeartbeats 1000000 in
theorem aseal_arg (vk vn va vb : Value) (k n : List UInt8) (h : ¬ (k.length = 32 ∧ n.length = 12)) (w : World) (hk : Rd w vk k) (hn : Rd w vn n) :
  Calls Tryd.prog 33 #[vk, vn, va, vb] w fun e w' => e = .returned (.tuple #[.slice none 0 0, .int .i64 1]) ∧ w' = w := by
 have H : Hid (¬ (k.length = 32 ∧ n.length = 12)) := h
 have HK : Hid (Rd w vk k) := hk
 have HN : Hid (Rd w vn n) := hn
 clear h hk hn
 go_enter Tryd.func33, Tryd.ntmps33
 go_wp2_with fail
 refine (stream_arg _ _ _ k n _ _ HK.out HN.out H.out).mono ?_
 rintro e w ⟨rfl, rfl⟩
 go_wp2_with fail
 refine (atag_arg _ _ _ _ k n H.out _ HK.out HN.out).mono ?_
 rintro e w ⟨rfl, rfl⟩
 go_wp2
 go_ret2
 exact ⟨rfl, rfl⟩

set_option maxRecDepth 100000 in
set_option maxHeartbeats 2000000 in
theorem aseal_any (vk vn va vb : Value) (k n a b : List UInt8) (hk32 : k.length = 32) (hn12 : n.length = 12) (hla : a.length ≤ 3000000) (hlb : b.length ≤ 3000000) (w : World) (hP : PlT w) (hT : KpT w) (hk : Rd w vk k) (hn : Rd w vn n) (ha : Rd w va a) (hb : Rd w vb b) :
  Calls Tryd.prog 33 #[vk, vn, va, vb] w fun e w' => ∃ r, e = .returned (.tuple #[r, .int .i64 0]) ∧ New 5 w r (seL k n a b) w' := by
 have HK : Hid (k.length = 32) := hk32
 have HN : Hid (n.length = 12) := hn12
 have HA : Hid (a.length ≤ 3000000) := hla
 have HB : Hid (b.length ≤ 3000000) := hlb
 have HP : Hid (PlT w) := hP
 have HT : Hid (KpT w) := hT
 clear hk32 hn12 hla hlb hP hT
 go_enter Tryd.func33, Tryd.ntmps33
 go_wp2_with fail
 refine (stream_any _ _ _ k n b 1 _ rfl (by decide) _ HP.out hk hn hb HK.out HN.out (by have := HB.out; omega)).mono ?_
 rintro e w1 ⟨v1, rfl, hN1⟩
 replace hk := hk.kept hN1.2
 replace hn := hn.kept hN1.2
 replace ha := ha.kept hN1.2
 have h1 := hN1.rd
 have hbw := hN1.2
 have HL1 : Hid ((smL k 1 n b).length = b.length) := smL_length k 1 n b
 have HE : Hid (seL k n a b = smL k 1 n b ++ tgL k n a (smL k 1 n b)) := rfl
 generalize smL k 1 n b = s at h1 HL1 HE
 clear hN1 hb
 go_wp2_with fail
 refine (atag_any _ _ _ _ k n a s HK.out HN.out HA.out (by rw [HL1.out]; exact HB.out) _ (HP.out.kept hbw) (HT.out.kept hbw) hk hn ha h1).mono ?_
 rintro e w2 ⟨v2, rfl, hN2⟩
 replace h1 := h1.kept hN2.2
 have h2 := hN2.rd
 replace hbw := stepB hbw hN2.2
 have HL2 : Hid ((tgL k n a s).length = 16) := mcP_length _ _
 generalize tgL k n a s = t at h2 HL2 HE
 clear hN2 hk hn ha
 obtain ⟨a1, c1, rfl, -⟩ := id h1
 obtain ⟨a2, c2, rfl, -⟩ := id h2
 go_wp2_with fail
 refine (join_any _ _ _ _ (RdL.pair8 (e := 22) rfl h1 h2) (by have := HL1.out; have := HL2.out; have := HB.out; simp [totL]; omega)).mono ?_
 rintro e w3 ⟨v3, rfl, hN3⟩
 replace hN3 := hN3.pair8
 rw [← HE.out] at hN3
 go_wp2
 go_ret2
 exact ⟨_, rfl, hN3.from (stepB hbw (growB _))⟩

set_option maxHeartbeats 1000000 in
theorem aopen_arg (vk vn va vb : Value) (k n : List UInt8) (h : ¬ (k.length = 32 ∧ n.length = 12)) (w : World) (hk : Rd w vk k) (hn : Rd w vn n) :
  Calls Tryd.prog 38 #[vk, vn, va, vb] w fun e w' => e = .returned (.tuple #[.slice none 0 0, .int .i64 1]) ∧ w' = w := by
 have hd : decide (k.length = 32 ∧ n.length = 12) = false := decide_eq_false h
 have HD : Hid _ := hd
 have HK : Hid (Rd w vk k) := hk
 have HN : Hid (Rd w vn n) := hn
 clear hd h hk hn
 go_enter Tryd.func38, Tryd.ntmps38
 go_wp2_with fail
 refine (afit_any _ _ k n _ HK.out HN.out).mono ?_
 rintro e w2 ⟨rfl, rfl⟩
 rw [HD.out]
 go_wp2
 go_ret2
 exact ⟨rfl, rfl⟩

set_option maxHeartbeats 1000000 in
theorem aopen_short (vk vn va vb : Value) (k n b : List UInt8) (hk32 : k.length = 32) (hn12 : n.length = 12) (hlb : b.length < 16) (w : World) (hk : Rd w vk k) (hn : Rd w vn n) (hb : Rd w vb b) :
  Calls Tryd.prog 38 #[vk, vn, va, vb] w fun e w' => e = .returned (.tuple #[.slice none 0 0, .int .i64 13]) ∧ w' = w := by
 have HD : Hid (decide (k.length = 32 ∧ n.length = 12) = true) := decide_eq_true ⟨hk32, hn12⟩
 have HK : Hid (Rd w vk k) := hk
 have HN : Hid (Rd w vn n) := hn
 obtain ⟨ab, cb, rfl, -, hmb, -, -⟩ := id hb
 have d5 : decide ((b.length : Int) < 16) = true := decide_eq_true (by omega)
 clear hk32 hn12 hk hn
 go_enter Tryd.func38, Tryd.ntmps38
 go_wp2_with fail
 refine (afit_any _ _ k n _ HK.out HN.out).mono ?_
 rintro e w2 ⟨rfl, rfl⟩
 rw [HD.out]
 go_wp2
 go_ret2
 exact ⟨rfl, rfl⟩

set_option maxRecDepth 100000 in
set_option maxHeartbeats 2000000 in
theorem aopen_any (vk vn va vb : Value) (k n a c t : List UInt8) (hk32 : k.length = 32) (hn12 : n.length = 12) (hla : a.length ≤ 3000000) (hlc : c.length ≤ 3000000) (ht : t.length = 16) (w : World) (hP : PlT w) (hT : KpT w) (hk : Rd w vk k) (hn : Rd w vn n) (ha : Rd w va a) (hb : Rd w vb (c ++ t)) :
  Calls Tryd.prog 38 #[vk, vn, va, vb] w fun e w' => (tgL k n a c = t → ∃ r, e = .returned (.tuple #[r, .int .i64 0]) ∧ New 5 w r (smL k 1 n c) w') ∧ (tgL k n a c ≠ t → e = .returned (.tuple #[.slice none 0 0, .int .i64 10]) ∧ Below w.heap.size w w') := by
 have HD : Hid (decide (k.length = 32 ∧ n.length = 12) = true) := decide_eq_true ⟨hk32, hn12⟩
 obtain ⟨bb, ob, cb, rfl, hcb, -, -⟩ := hb.cellAt (i := 0) (by rw [List.length_append]; omega)
 have hlen : (c ++ t).length = c.length + 16 := by rw [List.length_append, ht]
 obtain ⟨m, hm⟩ : ∃ m : Nat, m = c.length := ⟨_, rfl⟩
 rw [hlen, ← hm] at hb hcb ⊢
 have hC := hb.take (n := m) (by omega)
 have hS := hb.sub m (m + 16) (by omega) (Nat.le_refl _)
 rw [show (c ++ t).take m = c by rw [hm, List.take_left]] at hC
 rw [show m + 16 - m = 16 by omega, show ((c ++ t).drop m).take 16 = t by rw [hm, List.drop_left, ← ht, List.take_length]] at hS
 have HK : Hid (Rd w vk k) := hk
 have HN : Hid (Rd w vn n) := hn
 have HA : Hid (Rd w va a) := ha
 have HC : Hid (Rd w (.slice (some ⟨bb, ob, none⟩) m cb) c) := hC
 have HS : Hid (Rd w (.slice (some ⟨bb, ob + m, none⟩) 16 (cb - m)) t) := hS
 have H1 : Hid (k.length = 32) := hk32
 have H2 : Hid (n.length = 12) := hn12
 have HLA : Hid (a.length ≤ 3000000) := hla
 have HLC : Hid (c.length ≤ 3000000) := hlc
 have HP : Hid (PlT w) := hP
 have HT : Hid (KpT w) := hT
 have hmm : m ≤ 3000000 := by omega
 have hcm : ¬ cb = m := by omega
 have hcm2 : m ≤ cb := by omega
 have hcm3 : m ≤ m + 16 := by omega
 have hcm4 : m + 16 ≤ cb := hcb
 have hcm5 : m + 16 - m = 16 := by omega
 have hcm6 : (m : Int) ≤ (m : Int) + 16 := by omega
 have d3 : decide (((m + 16 : Nat) : Int) < 16) = false := decide_eq_false (by omega)
 have e16 : ((m + 16 : Nat) : Int) - 16 = (m : Int) := by omega
 clear hk32 hn12 hla hlc hlen hm hP hT hk hn ha hC hS hb ht
 go_enter Tryd.func38, Tryd.ntmps38
 go_wp2_with fail
 refine (afit_any _ _ k n _ HK.out HN.out).mono ?_
 rintro e w ⟨rfl, rfl⟩
 rw [HD.out]
 go_wp2_with fail
 refine (atag_any _ _ _ _ k n a c H1.out H2.out HLA.out HLC.out _ HP.out HT.out HK.out HN.out HA.out HC.out).mono ?_
 rintro e w1 ⟨v1, rfl, hN1⟩
 have h1 := hN1.rd
 have hbw := hN1.2
 obtain ⟨X, hX⟩ : ∃ X : List UInt8, X = tgL k n a c := ⟨_, rfl⟩
 rw [← hX] at h1
 have HX : Hid (X = tgL k n a c) := hX
 clear hN1 hX
 go_wp2_with fail
 refine (equal_any _ _ X t _ h1 (HS.out.kept hbw)).mono ?_
 rintro e w2 ⟨rfl, hb2⟩
 replace hbw := stepB hbw hb2
 obtain ⟨q, hq⟩ : ∃ q : Bool, decide (X = t) = q := ⟨_, rfl⟩
 rw [hq]
 clear h1 hb2
 cases q
 ·have HQ : Hid (tgL k n a c ≠ t) := by show _ ≠ _; rw [← HX.out]; exact of_decide_eq_false hq
  clear hq
  go_wp2
  go_ret2
  exact ⟨fun h => absurd h HQ.out, fun _ => ⟨rfl, hbw⟩⟩
 ·have HQ : Hid (tgL k n a c = t) := by show _ = _; rw [← HX.out]; exact of_decide_eq_true hq
  clear hq
  go_wp2_with fail
  refine (stream_any _ _ _ k n c 1 _ rfl (by decide) _ (HP.out.kept hbw) (HK.out.kept hbw) (HN.out.kept hbw) (HC.out.kept hbw) H1.out H2.out (by have := HLC.out; omega)).mono ?_
  rintro e w3 ⟨v3, rfl, hN3⟩
  go_wp2
  go_ret2
  exact ⟨fun _ => ⟨_, rfl, hN3.from hbw⟩, fun h => absurd HQ.out h⟩
theorem conv9 {w : World} {v : Value} {l : List UInt8} (h : Rd w v l) : (convert 22 9 v).run Tryd.prog w = .ok (.string ⟨l.toArray⟩) w :=
 h.conv Tryd.underlying22 Tryd.underlying5 Tryd.underlying9

set_option maxRecDepth 100000 in
set_option maxHeartbeats 2000000 in
theorem sealR_any (vk vn va vb : Value) (k n a b : List UInt8) (hk32 : k.length = 32) (hn12 : n.length = 12) (hla : a.length ≤ 3000000) (hlb : b.length ≤ 3000000) (w : World) (hk : Rd w vk k) (hn : Rd w vn n) (ha : Rd w va a) (hb : Rd w vb b) :
  Calls Tryd.prog 23 #[vk, vn, va, vb] w fun e w' => ∃ r, e = .returned (.tuple #[r, .int .i64 0]) ∧ New 5 w r (seL k n a b) w' := by
 obtain ⟨ak, ck, rfl, -, hmk, -, -⟩ := id hk
 obtain ⟨an, cn, rfl, -, hmn, -, -⟩ := id hn
 have d1 : ((k.length : Int) != 32) = false := by simp; omega
 have d2 : ((n.length : Int) != 12) = false := by simp; omega
 have HK : Hid (k.length = 32) := hk32
 have HN : Hid (n.length = 12) := hn12
 have HA : Hid (a.length ≤ 3000000) := hla
 have HB : Hid (b.length ≤ 3000000) := hlb
 clear hk32 hn12 hla hlb hmk hmn
 go_enter Tryd.func23, Tryd.ntmps23
 go_wp2_with fail
 refine (streamR_any _ _ _ k n b 1 _ rfl (by decide) _ hk hn hb HK.out HN.out (by have := HB.out; omega)).mono ?_
 rintro e w1 ⟨v1, rfl, hN1⟩
 replace hk := hk.kept hN1.2
 replace hn := hn.kept hN1.2
 replace ha := ha.kept hN1.2
 have h1 := hN1.rd
 have hbw := hN1.2
 have HL1 : Hid ((smL k 1 n b).length = b.length) := smL_length k 1 n b
 have HE : Hid (seL k n a b = smL k 1 n b ++ tgL k n a (smL k 1 n b)) := rfl
 generalize smL k 1 n b = s at h1 HL1 HE
 clear hN1 hb
 go_wp2_with fail
 refine (tagR_any _ _ _ _ k n a s HK.out HN.out HA.out (by rw [HL1.out]; exact HB.out) _ hk hn ha h1).mono ?_
 rintro e w2 ⟨v2, rfl, hN2⟩
 replace h1 := h1.kept hN2.2
 have h2 := hN2.rd
 replace hbw := stepB hbw hN2.2
 have HL2 : Hid ((tgL k n a s).length = 16) := mcP_length _ _
 generalize tgL k n a s = t at h2 HL2 HE
 clear hN2 hk hn ha
 go_wp2_with fail
 refine (joinR_any _ _ s t (by rw [HL1.out, HL2.out]; have := HB.out; omega) _ h1 h2).mono ?_
 rintro e w3 ⟨v3, rfl, hN3⟩
 rw [← HE.out] at hN3
 go_wp2
 go_ret2
 exact ⟨_, rfl, hN3.from hbw⟩

set_option maxHeartbeats 1000000 in
theorem openR_short (vk vn va vb : Value) (k n b : List UInt8) (hk32 : k.length = 32) (hn12 : n.length = 12) (hlb : b.length < 16) (w : World) (hk : Rd w vk k) (hn : Rd w vn n) (hb : Rd w vb b) :
  Calls Tryd.prog 27 #[vk, vn, va, vb] w fun e w' => e = .returned (.tuple #[.slice none 0 0, .int .i64 13]) ∧ w' = w := by
 obtain ⟨ak, ck, rfl, -, hmk, -, -⟩ := id hk
 obtain ⟨an, cn, rfl, -, hmn, -, -⟩ := id hn
 obtain ⟨ab, cb, rfl, -, hmb, -, -⟩ := id hb
 have d1 : ((k.length : Int) != 32) = false := by simp; omega
 have d2 : ((n.length : Int) != 12) = false := by simp; omega
 have d3 : (b.length : Int) - 16 < 0 := by omega
 have d4 : decide ((b.length : Int) - 16 < 0) = true := decide_eq_true d3
 have d5 : decide ((b.length : Int) < 16) = true := decide_eq_true (by omega)
 go_enter Tryd.func27, Tryd.ntmps27
 go_wp2
 go_ret2
 exact ⟨rfl, rfl⟩
set_option maxRecDepth 100000 in
set_option maxHeartbeats 2000000 in
theorem openR_any (vk vn va vb : Value) (k n a c t : List UInt8) (hk32 : k.length = 32) (hn12 : n.length = 12) (hla : a.length ≤ 3000000) (hlc : c.length ≤ 3000000) (ht : t.length = 16) (w : World) (hk : Rd w vk k) (hn : Rd w vn n) (ha : Rd w va a) (hb : Rd w vb (c ++ t)) :
  Calls Tryd.prog 27 #[vk, vn, va, vb] w fun e w' => (tgL k n a c = t → ∃ r, e = .returned (.tuple #[r, .int .i64 0]) ∧ New 5 w r (smL k 1 n c) w') ∧ (tgL k n a c ≠ t → e = .returned (.tuple #[.slice none 0 0, .int .i64 10]) ∧ Below w.heap.size w w') := by
 obtain ⟨ak, ck, rfl, -, hmk, -, -⟩ := id hk
 obtain ⟨an, cn, rfl, -, hmn, -, -⟩ := id hn
 obtain ⟨bb, ob, cb, rfl, hcb, -, -⟩ := hb.cellAt (i := 0) (by rw [List.length_append]; omega)
 have d1 : ((k.length : Int) != 32) = false := by simp; omega
 have d2 : ((n.length : Int) != 12) = false := by simp; omega
 have hlen : (c ++ t).length = c.length + 16 := by rw [List.length_append, ht]
 obtain ⟨m, hm⟩ : ∃ m : Nat, m = c.length := ⟨_, rfl⟩
 rw [hlen, ← hm] at hb hcb ⊢
 have hC := hb.take (n := m) (by omega)
 have hT := hb.sub m (m + 16) (by omega) (Nat.le_refl _)
 rw [show (c ++ t).take m = c by rw [hm, List.take_left]] at hC
 rw [show m + 16 - m = 16 by omega, show ((c ++ t).drop m).take 16 = t by rw [hm, List.drop_left, ← ht, List.take_length]] at hT
 have HK : Hid (k.length = 32) := hk32
 have HN : Hid (n.length = 12) := hn12
 have HA : Hid (a.length ≤ 3000000) := hla
 have HC : Hid (c.length ≤ 3000000) := hlc
 have hmm : m ≤ 3000000 := by omega
 have hcm : ¬ cb = m := by omega
 have hcm2 : m ≤ cb := by omega
 have hcm3 : m ≤ m + 16 := by omega
 have hcm4 : m + 16 ≤ cb := hcb
 have hcm5 : m + 16 - m = 16 := by omega
 have hcm6 : (m : Int) ≤ (m : Int) + 16 := by omega
 have d3 : decide ((m : Int) < 0) = false := decide_eq_false (by omega)
 have e16 : ((m + 16 : Nat) : Int) - 16 = (m : Int) := by omega
 replace hk := hk.drew
 replace hn := hn.drew
 clear hk32 hn12 hla hlc hmk hmn hlen hm
 have hs0 : ∀ a : List UInt8, (⟨a.toArray⟩ : ByteArray).toList = a := str_toList
 obtain ⟨X, hX⟩ : ∃ X : List UInt8, X = tgL k n a c := ⟨_, rfl⟩
 rw [← hX]
 have HX : Hid (X = tgL k n a c) := hX
 obtain ⟨q, hq⟩ : ∃ q : Bool, (X == t) = q := ⟨_, rfl⟩
 have HKD : Hid (Rd _ _ _) := hk
 have HND : Hid (Rd _ _ _) := hn
 have HAD : Hid (Rd _ _ _) := ha.drew
 have HCD : Hid (Rd _ _ _) := hC.drew
 have HTD : Hid (Rd _ _ _) := hT.drew
 clear hX hk hn ha hC hT hb ht
 go_enter Tryd.func27, Tryd.ntmps27
 go_wp2_with fail
 refine wpG_begin (by kernel_rfl) ?_
 refine wpG_t (i := 0) (oi := ⟨some 24, .move (.tmp 0), 22, "ref.go:47", #[], none⟩) (v := ?_) ?_ ?_
 rotate_left
 ·intro W hW; go_simp <;> with_reducible rfl
 try simp only [Act.put, putA, putB, putC]
 refine wpG_t (i := 1) (oi := ⟨some 25, .move (.tmp 1), 22, "ref.go:47", #[], none⟩) (v := ?_) ?_ ?_
 rotate_left
 ·intro W hW; go_simp <;> with_reducible rfl
 try simp only [Act.put, putA, putB, putC]
 refine wpG_t (i := 2) (oi := ⟨some 26, .move (.tmp 2), 22, "ref.go:47", #[], none⟩) (v := ?_) ?_ ?_
 rotate_left
 ·intro W hW; go_simp <;> with_reducible rfl
 try simp only [Act.put, putA, putB, putC]
 refine wpG_t (i := 3) (oi := ⟨some 27, .move (.tmp 3), 22, "ref.go:47", #[], none⟩) (v := ?_) ?_ ?_
 rotate_left
 ·intro W hW; go_simp <;> with_reducible rfl
 try simp only [Act.put, putA, putB, putC]
 refine wpG_t (i := 4) (oi := ⟨some 28, .move (.tmp 10), 3, "ref.go:47", #[], none⟩) (v := ?_) ?_ ?_
 rotate_left
 ·intro W hW; go_simp <;> with_reducible rfl
 try simp only [Act.put, putA, putB, putC]
 refine wpG_t (i := 5) (oi := ⟨some 29, .slice 22 (.tmp 27) none (some (.tmp 28)) none, 22, "ref.go:47", #[⟨3, .data⟩, ⟨4, .data⟩], none⟩) (v := ?_) ?_ ?_
 rotate_left
 ·intro W hW; go_simp <;> with_reducible rfl
 try simp only [Act.put, putA, putB, putC]
 refine wpG_t (i := 8) (oi := ⟨some 32, .move (.tmp 3), 22, "ref.go:47", #[], none⟩) (v := ?_) ?_ ?_
 rotate_left
 ·intro W hW; go_simp <;> with_reducible rfl
 try simp only [Act.put, putA, putB, putC]
 refine wpG_t (i := 9) (oi := ⟨some 33, .move (.tmp 10), 3, "ref.go:47", #[], none⟩) (v := ?_) ?_ ?_
 rotate_left
 ·intro W hW; go_simp <;> with_reducible rfl
 try simp only [Act.put, putA, putB, putC]
 refine wpG_t (i := 10) (oi := ⟨some 34, .slice 22 (.tmp 32) (some (.tmp 33)) none none, 22, "ref.go:47", #[⟨8, .data⟩, ⟨9, .data⟩], none⟩) (v := ?_) ?_ ?_
 rotate_left
 ·intro W hW; go_simp <;> with_reducible rfl
 try simp only [Act.put, putA, putB, putC]
 refine wpG_t (i := 11) (oi := ⟨some 35, .convert 22 9 (.tmp 34), 9, "ref.go:47", #[⟨10, .data⟩], none⟩) (v := ?_) ?_ ?_
 rotate_left
 ·intro W hW; have hcv := conv9 (HTD.out.kept hW); go_simp <;> with_reducible rfl
 try simp only [Act.put, putA, putB, putC]
 refine wpG_do (i := 6) (o := ⟨some 30, .call { callee := .value (.func 36), args := #[.tmp 24, .tmp 25, .tmp 26, .tmp 29], argTypes := #[22, 22, 22, 22] }, 22, "ref.go:47", #[⟨0, .data⟩, ⟨1, .data⟩, ⟨2, .data⟩, ⟨5, .data⟩], none⟩) (by kernel_rfl) rfl (by rfl) fun K hK => ?_
 go_simp
 refine (tagR_any _ _ _ _ k n a c HK.out HN.out HA.out HC.out _ HKD.out HND.out HAD.out HCD.out).mono ?_
 rintro e w1 ⟨v1, rfl, hN1⟩
 refine hK.out _ _ hN1.2 ?_
 clear hK K
 have h1 := hN1.rd
 rw [← HX.out] at h1
 try simp only [Act.put, putA, putB, putC]
 refine wpG_t (i := 7) (oi := ⟨some 31, .convert 22 9 (.tmp 30), 9, "ref.go:47", #[⟨6, .data⟩], none⟩) (v := ?_) ?_ ?_
 rotate_left
 ·intro W hW; have hcv := conv9 (h1.kept hW); go_simp <;> with_reducible rfl
 try simp only [Act.put, putA, putB, putC]
 refine wpG_t (i := 12) (oi := ⟨some 36, .binOp .neq 9 (.tmp 31) (.tmp 35) 9, 4, "ref.go:47", #[⟨7, .data⟩, ⟨11, .data⟩], none⟩) (v := ?_) ?_ ?_
 rotate_left
 ·intro W hW; go_simp <;> with_reducible rfl
 try simp only [Act.put, putA, putB, putC]
 refine wpG_done (by kernel_rfl) ?_
 have hk := HKD.out.kept hN1.2
 have hn := HND.out.kept hN1.2
 have hC := HCD.out.kept hN1.2
 have hbw := hN1.2
 clear HKD HND HAD HCD HTD hN1 h1
 cases q
 ·have hne : X ≠ t := fun h => by rw [h] at hq; simp at hq
  go_wp2
  go_ret2
  exact ⟨fun h => absurd h hne, fun _ => ⟨rfl, (Below.refl _ _).drew.trans (hbw.mono (Nat.le_refl _))⟩⟩
 ·have heq : X = t := by simpa using hq
  have HQ : Hid _ := heq
  clear heq
  go_wp2_with fail
  refine (streamR_any _ _ _ k n c 1 _ rfl (by decide) _ hk hn hC HK.out HN.out (by have := HC.out; omega)).mono ?_
  rintro e w2 ⟨v2, rfl, hN2⟩
  go_wp2
  go_ret2
  exact ⟨fun _ => ⟨_, rfl, hN2.from ((Below.refl _ _).drew.trans (hbw.mono (Nat.le_refl _)))⟩, fun h => absurd HQ.out h⟩
abbrev fitN (k n : List UInt8) : Prop := k.length = 32 ∧ n.length = 12
def seA (k n a t : List UInt8) : List UInt8 × Int := if fitN k n then (seL k n a t, 0) else ([], 1)
def opA (k n a s : List UInt8) : List UInt8 × Int :=
 if fitN k n then
  if s.length < 16 then ([], 13) else if tgL k n a (s.take (s.length - 16)) = s.drop (s.length - 16) then (smL k 1 n (s.take (s.length - 16)), 0) else ([], 10)
 else ([], 1)
theorem seA_fit {k n : List UInt8} (h : fitN k n) (a t : List UInt8) : seA k n a t = (seL k n a t, 0) := if_pos h
theorem seA_no {k n : List UInt8} (h : ¬ fitN k n) (a t : List UInt8) : seA k n a t = ([], 1) := if_neg h
theorem opA_no {k n : List UInt8} (h : ¬ fitN k n) (a s : List UInt8) : opA k n a s = ([], 1) := if_neg h
theorem opA_short {k n : List UInt8} (h : fitN k n) (a s : List UInt8) (hs : s.length < 16) : opA k n a s = ([], 13) := by
 unfold opA
 rw [if_pos h, if_pos hs]
theorem opA_ok {k n : List UInt8} (h : fitN k n) (a c t : List UInt8) (ht : t.length = 16) (he : tgL k n a c = t) : opA k n a (c ++ t) = (smL k 1 n c, 0) := by
 have e : (c ++ t).length - 16 = c.length := by rw [List.length_append]; omega
 unfold opA
 rw [if_pos h, if_neg (by rw [List.length_append]; omega), e, List.take_left, List.drop_left, if_pos he]
theorem opA_bad {k n : List UInt8} (h : fitN k n) (a c t : List UInt8) (ht : t.length = 16) (he : tgL k n a c ≠ t) : opA k n a (c ++ t) = ([], 10) := by
 have e : (c ++ t).length - 16 = c.length := by rw [List.length_append]; omega
 unfold opA
 rw [if_pos h, if_neg (by rw [List.length_append]; omega), e, List.take_left, List.drop_left, if_neg he]
theorem New.noneB {e : TypeId} {w w' : World} (h : Below w.heap.size w w') : New e w (.slice none 0 0) [] w' := ⟨World.ownsRow_nil _ _ _ _, h⟩
theorem parts16 (s : List UInt8) (h : ¬ s.length < 16) : ∃ c t, s = c ++ t ∧ t.length = 16 :=
 ⟨s.take (s.length - 16), s.drop (s.length - 16), (List.take_append_drop _ _).symm, by rw [List.length_drop]; omega⟩

theorem aseal_all (vk vn va vb : Value) (k n a b : List UInt8) (hla : a.length ≤ 3000000) (hlb : b.length ≤ 3000000) (w : World) (hP : PlT w) (hT : KpT w) (hk : Rd w vk k) (hn : Rd w vn n) (ha : Rd w va a) (hb : Rd w vb b) :
  Calls Tryd.prog 33 #[vk, vn, va, vb] w fun e w' => ∃ r, e = .returned (.tuple #[r, .int .i64 (seA k n a b).2]) ∧ New 5 w r (seA k n a b).1 w' := by
 by_cases h : fitN k n
 ·rw [seA_fit h]
  exact aseal_any vk vn va vb k n a b h.1 h.2 hla hlb w hP hT hk hn ha hb
 ·rw [seA_no h]
  refine (aseal_arg vk vn va vb k n h w hk hn).mono ?_
  rintro e w' ⟨rfl, rfl⟩
  exact ⟨_, rfl, New.start _⟩

theorem aopen_all (vk vn va vb : Value) (k n a s : List UInt8) (hla : a.length ≤ 3000000) (hlb : s.length ≤ 3000000) (w : World) (hP : PlT w) (hT : KpT w) (hk : Rd w vk k) (hn : Rd w vn n) (ha : Rd w va a) (hb : Rd w vb s) :
  Calls Tryd.prog 38 #[vk, vn, va, vb] w fun e w' => ∃ r, e = .returned (.tuple #[r, .int .i64 (opA k n a s).2]) ∧ New 5 w r (opA k n a s).1 w' := by
 by_cases h : fitN k n
 ·by_cases h16 : s.length < 16
  ·rw [opA_short h _ _ h16]
   refine (aopen_short vk vn va vb k n s h.1 h.2 h16 w hk hn hb).mono ?_
   rintro e w' ⟨rfl, rfl⟩
   exact ⟨_, rfl, New.start _⟩
  ·obtain ⟨c, t, rfl, ht⟩ := parts16 s h16
   rw [List.length_append] at hlb
   refine (aopen_any vk vn va vb k n a c t h.1 h.2 hla (by omega) ht w hP hT hk hn ha hb).mono ?_
   rintro e w' ⟨h1, h2⟩
   by_cases he : tgL k n a c = t
   ·rw [opA_ok h a c t ht he]
    exact h1 he
   ·rw [opA_bad h a c t ht he]
    obtain ⟨rfl, hb⟩ := h2 he
    exact ⟨_, rfl, New.noneB hb⟩
 ·rw [opA_no h]
  refine (aopen_arg vk vn va vb k n h w hk hn).mono ?_
  rintro e w' ⟨rfl, rfl⟩
  exact ⟨_, rfl, New.start _⟩

end Go.Proofs.YtdlmmcilembjgaaDoor
