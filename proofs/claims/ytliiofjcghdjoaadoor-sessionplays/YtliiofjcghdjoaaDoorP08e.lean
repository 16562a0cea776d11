/- The code of bytes: a contract of package poly, fifth part. -/
import Derived.Test.YtliiofjcghdjoaaDoorP08d
import Derived.Test.YtliiofjcghdjoaaDoorBase
import Derived.Test.YtliiofjcghdjoaaDoorCut
import Derived.Deep.DeepCutAuto
namespace Go.Proofs.YtliiofjcghdjoaaDoor
open Go.ChangeShapes Go.WideShapes Go.ChangeAt Go.RowKit
set_option linter.unusedSimpArgs false
set_option linter.unusedVariables false

/-- A variable is made, all noughts, in a region whose order is open. -/
theorem wp_alloc_nm {w0 : World} {op : Oper} {a : Act} {w : World} {K : Act → World → Prop} {Q : Exit → Act → World → Prop} (hB : Below w0.heap.size w0 w) (ho : op.op = .alloc 124)
    (h : ∀ g w', RowAt .u64 124 g 3 (nI z3) w' → w0.heap.size ≤ g → w.heap.size ≤ g → Below w.heap.size w w' → Below w0.heap.size w0 w' → K (a.put op.dst (.pointer (some ⟨g, 0, none⟩))) w') : op.wp Tryd.prog a w K Q := by
  unfold Oper.wp execOp
  simp only [ho, Sem.run_bind, alloc_nm, Result.andThen_ok, Sem.run_pure]
  refine h _ _ (RowAt.fresh (nI z3) rfl rfl z3_nm.len.symm z3_nm.ne (nmMax z3_nm)) hB.size (Nat.le_refl _) (growB _) (stepB hB (growB _))
/-- A whole number is stored into a row of the region's own. -/
theorem wp_store_nm {w0 : World} {g : Nat} {l l2 : List Nat} {op : Oper} {a : Act} {w : World} {K : Act → World → Prop} {Q : Exit → Act → World → Prop} (hB : Below w0.heap.size w0 w) (hge : w0.heap.size ≤ g) (x y : Operand) (ho : op.op = .store 124 x y)
    (hx : a.eval x = .pointer (some ⟨g, 0, none⟩)) (hy : a.eval y = nmV l2) (hr : RowAt .u64 124 g 3 (nI l) w) (hl : Nm3 l) (hl2 : Nm3 l2)
    (h : ∀ w', RowAt .u64 124 g 3 (nI l2) w' → Wrote g w w' → Below w0.heap.size w0 w' → K (a.put op.dst undef) w') : op.wp Tryd.prog a w K Q :=
  wp_store_row 124 x y ho (nI l2) hx hy hr (by rw [hl.len, hl2.len]) (nmInfo hl) fun w' h1 h2 => h w' h1 h2 (h2.below _ _ hge hB)
def rowLen8 : Value → Nat
  | .slice _ n _ => n
  | _ => 0
theorem RdL.pair8 {w : World} {e : TypeId} {v1 v2 : Value} {l1 l2 : List UInt8} {b : Nat} (hb : b = w.heap.size) (h1 : Rd w v1 l1) (h2 : Rd w v2 l2) : RdL (w.alloc (.cells #[v1, v2] e)) (.slice (some ⟨b, 0, none⟩) 2 2) [v1, v2] [l1, l2] := by
  subst hb
  refine RdL.lit [v1, v2] [l1, l2] rfl rfl rfl (by unfold maxLen; simp) rfl fun i hi => ?_
  match i, hi with
  | 0, _ => exact h1
  | 1, _ => exact h2
theorem New.pair8 {e : TypeId} {w w' : World} {v : Value} {l1 l2 : List UInt8} (h : New e w v [l1, l2].flatten w') : New e w v (l1 ++ l2) w' := by
  simpa using h
theorem drop_more (b : List UInt8) (j m L : Nat) (hL : L = (b.drop (16 * j)).length) (hm : m = min L 16) : (b.drop (16 * j)).drop m = b.drop (16 * (j + 1)) ∧ (b.drop (16 * j)).take m = (b.drop (16 * j)).take 16 := by
  rw [List.length_drop] at hL
  rw [List.drop_drop]
  refine ⟨?_, ?_⟩
  · by_cases h : 16 ≤ L
    · rw [show 16 * j + m = 16 * (j + 1) by omega]
    · rw [List.drop_eq_nil_of_le (by omega), List.drop_eq_nil_of_le (by omega)]
  · by_cases h : 16 ≤ L
    · rw [show m = 16 by omega]
    · rw [List.take_of_length_le (by rw [List.length_drop]; omega), List.take_of_length_le (by rw [List.length_drop]; omega)]

theorem mac_sum_lt (k b : List UInt8) (hk : k.length = 32) : accN (leN (clP k)) b (nblk b.length) + leN (k.drop 16) < 6277101735386680763835789423207666416102355444464034512896 := by
  have h1 := accN_lt (leN (clP k)) b (nblk b.length)
  have h2 := leN_lt (k.drop 16)
  rw [List.length_drop, hk, show 32 - 16 = 16 from rfl] at h2
  rw [p8_val] at h1
  omega
theorem mcP_eq (k b : List UInt8) (hk : k.length = 32) : mcP k b = (List.range 16).map (stB (accN (leN (clP k)) b (nblk b.length) + leN (k.drop 16))) := by
  unfold mcP
  rw [List.take_of_length_le (by rw [List.length_drop, hk]; decide)]

set_option maxRecDepth 100000 in
set_option maxHeartbeats 2000000 in
theorem pmac_arg (vk vb : Value) (k : List UInt8) (w : World) (hk : Rd w vk k) (h : k.length ≠ 32) :
    Calls Tryd.prog 69 #[vk, vb] w fun e w' => e = .returned (.slice none 0 0) ∧ w' = w := by
  obtain ⟨ak, ck, rfl, -, hmk, -, -⟩ := id hk
  have hne : ((k.length : Int) != 32) = true := by simp; omega
  go_enter Tryd.func69, Tryd.ntmps69
  go_wp2
  go_ret
  exact ⟨rfl, rfl⟩

set_option maxRecDepth 100000 in
set_option maxHeartbeats 8000000 in
theorem pmac_any (vk vb : Value) (k b : List UInt8) (w : World) (hT : KpT w) (hk : Rd w vk k) (hb : Rd w vb b) (hk32 : k.length = 32) :
    Calls Tryd.prog 69 #[vk, vb] w fun e w' => ∃ r, e = .returned r ∧ New 5 w r (mcP k b) w' := by
  obtain ⟨bk, ok, ck, ev, hck, hmk, -⟩ := hk.cells (by omega)
  rw [hk32] at ev hck
  subst ev
  have HT : Hid (KpT w) := hT
  have HK : Hid (Rd w (.slice (some ⟨bk, ok, none⟩) 32 ck) k) := hk
  have hs := hk.sub 16 32 (by omega) (by omega)
  have hk16 : (k.drop 16).take (32 - 16) = k.drop 16 := by rw [List.take_of_length_le (by rw [List.length_drop]; omega)]
  rw [hk16] at hs
  have HS : Hid (Rd w (.slice (some ⟨bk, ok + 16, none⟩) 16 (ck - 16)) (k.drop 16)) := hs
  have HK32 : Hid _ := hk32
  have HB : Hid (Rd w vb b) := hb
  unfold maxLen at hmk
  have ym1 : ¬ ck = 16 := by omega
  have ym2 : (32 : Int) ≤ (ck : Int) := by omega
  clear hk hs hk16 hk32 hT hb
  go_enter Tryd.func69, Tryd.ntmps69
  go_upto_region 3 with fail
  go_cut [5, 6] (fun v5 v6 wx => ∃ (g5 g6 : Nat) (r s : List Nat), v5 = .pointer (some ⟨g5, 0, none⟩) ∧ v6 = .pointer (some ⟨g6, 0, none⟩) ∧ w.heap.size ≤ g5 ∧ w.heap.size ≤ g6 ∧ g5 ≠ g6 ∧ Hid (Nm3 r) ∧ Hid (Nm3 s) ∧ Hid (wv r = leN (clP k)) ∧ Hid (wv s = leN (k.drop 16)) ∧
    RowAt .u64 124 g5 3 (nI r) wx ∧ RowAt .u64 124 g6 3 (nI s) wx ∧ Below w.heap.size w wx)
  case first =>
    have hB : Below w.heap.size w w.drew := (Below.refl _ _).drew
    refine wpB_begin (Below.refl w.heap.size w) (by kernel_rfl) ?_
    refine bU_ hB 0 rfl ⟨_, by intro W hW; go_simp <;> with_reducible rfl, ?_⟩
    try simp only [Act.put, pA_, pB_, pC_]
    refine bU_ hB 3 rfl ⟨_, by intro W hW; go_simp <;> with_reducible rfl, ?_⟩
    try simp only [Act.put, pA_, pB_, pC_]
    refine bU_ hB 4 rfl ⟨_, by intro W hW; go_simp <;> with_reducible rfl, ?_⟩
    try simp only [Act.put, pA_, pB_, pC_]
    refine bF3_ 1 6 7 (fun K hK => ?_) (fun K hK => ?_) (fun K hK => ?_)
    · go_simp
      refine (pclamp_any _ k _ (HT.out.kept hB) (HK.out.kept hB) HK32.out).mono ?_
      rintro e wq ⟨vC, rfl, hN1⟩
      have hC := hN1.rd
      replace hB := stepB hB hN1.2
      try replace hG5 := hG5.kept hN1.2
      try replace hG6 := hG6.kept hN1.2
      refine hK.out _ _ hB ?_
      clear hK K
      try simp only [Act.put, pA_, pB_, pC_]
      refine bF3_ 2 6 7 (fun K hK => ?_) (fun K hK => ?_) (fun K hK => ?_)
      · go_simp
        refine (numberOf_any _ (clP k) _ hC (by rw [clP_length]; decide)).mono ?_
        rintro e wq ⟨r, rfl, hr, hvr, bq⟩
        replace hB := stepB hB bq
        try replace hG5 := hG5.kept bq
        try replace hG6 := hG6.kept bq
        refine hK.out _ _ hB ?_
        clear hK K
        try simp only [Act.put, pA_, pB_, pC_]
        refine bF3_ 5 6 7 (fun K hK => ?_) (fun K hK => ?_) (fun K hK => ?_)
        · go_simp
          refine (numberOf_any _ (k.drop 16) _ (HS.out.kept hB) (by rw [List.length_drop, HK32.out]; decide)).mono ?_
          rintro e wq ⟨s, rfl, hs, hvs, bq⟩
          replace hB := stepB hB bq
          try replace hG5 := hG5.kept bq
          try replace hG6 := hG6.kept bq
          refine hK.out _ _ hB ?_
          clear hK K
          try simp only [Act.put, pA_, pB_, pC_]
          refine bF_ 6 7 (fun K hK => ?_) (fun K hK => ?_)
          · refine wp_alloc_nm hB rfl ?_
            intro g5 wA hG5 hge5 hgw5 hbA hBA
            replace hB := hBA
            try have hlt6 := hG6.lt
            try replace hG6 := hG6.kept hbA
            try replace hC := hC.kept hbA
            refine hK.out _ _ hB ?_
            clear hK K
            try simp only [Act.put, pA_, pB_, pC_]
            refine bD_ 7 fun K hK => ?_
            refine wp_alloc_nm hB rfl ?_
            intro g6 wA hG6 hge6 hgw6 hbA hBA
            replace hB := hBA
            try have hlt5 := hG5.lt
            try replace hG5 := hG5.kept hbA
            try replace hC := hC.kept hbA
            refine hK.out _ _ hB ?_
            clear hK K
            try simp only [Act.put, pA_, pB_, pC_]
            refine bD_ 8 fun K hK => ?_
            have hne56 : g5 ≠ g6 := by omega
            refine wp_store_nm (l := z3) (l2 := r) hB hge5 _ _ rfl rfl rfl hG5 z3_nm hr ?_
            intro wS hG5S hwS hBS
            replace hB := hBS
            replace hG6 := hG6.wrote hwS (by omega)
            refine hK.out _ _ hB ?_
            clear hK K
            try simp only [Act.put, pA_, pB_, pC_]
            refine bD_ 9 fun K hK => ?_
            refine wp_store_nm (l := z3) (l2 := s) hB hge6 _ _ rfl rfl rfl hG6 z3_nm hs ?_
            intro wS2 hG6S hwS2 hBS2
            replace hB := hBS2
            replace hG5S := hG5S.wrote hwS2 (by omega)
            refine hK.out _ _ hB ?_
            clear hK K
            try simp only [Act.put, pA_, pB_, pC_]
            refine wpB_done (by kernel_rfl) ?_
            go_wp2_with fail
            go_meet
            exact ⟨g5, g6, r, s, rfl, rfl, hge5, hge6, hne56, hr, hs, hvr, hvs, hG5S, hG6S, hB⟩
          · refine wp_alloc_nm hB rfl ?_
            intro g6 wA hG6 hge6 hgw6 hbA hBA
            replace hB := hBA
            try have hlt5 := hG5.lt
            try replace hG5 := hG5.kept hbA
            try replace hC := hC.kept hbA
            refine hK.out _ _ hB ?_
            clear hK K
            try simp only [Act.put, pA_, pB_, pC_]
            refine bD_ 6 fun K hK => ?_
            refine wp_alloc_nm hB rfl ?_
            intro g5 wA hG5 hge5 hgw5 hbA hBA
            replace hB := hBA
            try have hlt6 := hG6.lt
            try replace hG6 := hG6.kept hbA
            try replace hC := hC.kept hbA
            refine hK.out _ _ hB ?_
            clear hK K
            try simp only [Act.put, pA_, pB_, pC_]
            refine bD_ 8 fun K hK => ?_
            have hne56 : g5 ≠ g6 := by omega
            refine wp_store_nm (l := z3) (l2 := r) hB hge5 _ _ rfl rfl rfl hG5 z3_nm hr ?_
            intro wS hG5S hwS hBS
            replace hB := hBS
            replace hG6 := hG6.wrote hwS (by omega)
            refine hK.out _ _ hB ?_
            clear hK K
            try simp only [Act.put, pA_, pB_, pC_]
            refine bD_ 9 fun K hK => ?_
            refine wp_store_nm (l := z3) (l2 := s) hB hge6 _ _ rfl rfl rfl hG6 z3_nm hs ?_
            intro wS2 hG6S hwS2 hBS2
            replace hB := hBS2
            replace hG5S := hG5S.wrote hwS2 (by omega)
            refine hK.out _ _ hB ?_
            clear hK K
            try simp only [Act.put, pA_, pB_, pC_]
            refine wpB_done (by kernel_rfl) ?_
            go_wp2_with fail
            go_meet
            exact ⟨g5, g6, r, s, rfl, rfl, hge5, hge6, hne56, hr, hs, hvr, hvs, hG5S, hG6S, hB⟩
        · refine wp_alloc_nm hB rfl ?_
          intro g5 wA hG5 hge5 hgw5 hbA hBA
          replace hB := hBA
          try have hlt6 := hG6.lt
          try replace hG6 := hG6.kept hbA
          try replace hC := hC.kept hbA
          refine hK.out _ _ hB ?_
          clear hK K
          try simp only [Act.put, pA_, pB_, pC_]
          refine bF_ 5 7 (fun K hK => ?_) (fun K hK => ?_)
          · go_simp
            refine (numberOf_any _ (k.drop 16) _ (HS.out.kept hB) (by rw [List.length_drop, HK32.out]; decide)).mono ?_
            rintro e wq ⟨s, rfl, hs, hvs, bq⟩
            replace hB := stepB hB bq
            try replace hG5 := hG5.kept bq
            try replace hG6 := hG6.kept bq
            refine hK.out _ _ hB ?_
            clear hK K
            try simp only [Act.put, pA_, pB_, pC_]
            refine bD_ 7 fun K hK => ?_
            refine wp_alloc_nm hB rfl ?_
            intro g6 wA hG6 hge6 hgw6 hbA hBA
            replace hB := hBA
            try have hlt5 := hG5.lt
            try replace hG5 := hG5.kept hbA
            try replace hC := hC.kept hbA
            refine hK.out _ _ hB ?_
            clear hK K
            try simp only [Act.put, pA_, pB_, pC_]
            refine bD_ 8 fun K hK => ?_
            have hne56 : g5 ≠ g6 := by omega
            refine wp_store_nm (l := z3) (l2 := r) hB hge5 _ _ rfl rfl rfl hG5 z3_nm hr ?_
            intro wS hG5S hwS hBS
            replace hB := hBS
            replace hG6 := hG6.wrote hwS (by omega)
            refine hK.out _ _ hB ?_
            clear hK K
            try simp only [Act.put, pA_, pB_, pC_]
            refine bD_ 9 fun K hK => ?_
            refine wp_store_nm (l := z3) (l2 := s) hB hge6 _ _ rfl rfl rfl hG6 z3_nm hs ?_
            intro wS2 hG6S hwS2 hBS2
            replace hB := hBS2
            replace hG5S := hG5S.wrote hwS2 (by omega)
            refine hK.out _ _ hB ?_
            clear hK K
            try simp only [Act.put, pA_, pB_, pC_]
            refine wpB_done (by kernel_rfl) ?_
            go_wp2_with fail
            go_meet
            exact ⟨g5, g6, r, s, rfl, rfl, hge5, hge6, hne56, hr, hs, hvr, hvs, hG5S, hG6S, hB⟩
          · refine wp_alloc_nm hB rfl ?_
            intro g6 wA hG6 hge6 hgw6 hbA hBA
            replace hB := hBA
            try have hlt5 := hG5.lt
            try replace hG5 := hG5.kept hbA
            try replace hC := hC.kept hbA
            refine hK.out _ _ hB ?_
            clear hK K
            try simp only [Act.put, pA_, pB_, pC_]
            refine bD_ 5 fun K hK => ?_
            go_simp
            refine (numberOf_any _ (k.drop 16) _ (HS.out.kept hB) (by rw [List.length_drop, HK32.out]; decide)).mono ?_
            rintro e wq ⟨s, rfl, hs, hvs, bq⟩
            replace hB := stepB hB bq
            try replace hG5 := hG5.kept bq
            try replace hG6 := hG6.kept bq
            refine hK.out _ _ hB ?_
            clear hK K
            try simp only [Act.put, pA_, pB_, pC_]
            refine bD_ 8 fun K hK => ?_
            have hne56 : g5 ≠ g6 := by omega
            refine wp_store_nm (l := z3) (l2 := r) hB hge5 _ _ rfl rfl rfl hG5 z3_nm hr ?_
            intro wS hG5S hwS hBS
            replace hB := hBS
            replace hG6 := hG6.wrote hwS (by omega)
            refine hK.out _ _ hB ?_
            clear hK K
            try simp only [Act.put, pA_, pB_, pC_]
            refine bD_ 9 fun K hK => ?_
            refine wp_store_nm (l := z3) (l2 := s) hB hge6 _ _ rfl rfl rfl hG6 z3_nm hs ?_
            intro wS2 hG6S hwS2 hBS2
            replace hB := hBS2
            replace hG5S := hG5S.wrote hwS2 (by omega)
            refine hK.out _ _ hB ?_
            clear hK K
            try simp only [Act.put, pA_, pB_, pC_]
            refine wpB_done (by kernel_rfl) ?_
            go_wp2_with fail
            go_meet
            exact ⟨g5, g6, r, s, rfl, rfl, hge5, hge6, hne56, hr, hs, hvr, hvs, hG5S, hG6S, hB⟩
        · refine wp_alloc_nm hB rfl ?_
          intro g6 wA hG6 hge6 hgw6 hbA hBA
          replace hB := hBA
          try have hlt5 := hG5.lt
          try replace hG5 := hG5.kept hbA
          try replace hC := hC.kept hbA
          refine hK.out _ _ hB ?_
          clear hK K
          try simp only [Act.put, pA_, pB_, pC_]
          refine bF_ 5 6 (fun K hK => ?_) (fun K hK => ?_)
          · go_simp
            refine (numberOf_any _ (k.drop 16) _ (HS.out.kept hB) (by rw [List.length_drop, HK32.out]; decide)).mono ?_
            rintro e wq ⟨s, rfl, hs, hvs, bq⟩
            replace hB := stepB hB bq
            try replace hG5 := hG5.kept bq
            try replace hG6 := hG6.kept bq
            refine hK.out _ _ hB ?_
            clear hK K
            try simp only [Act.put, pA_, pB_, pC_]
            refine bD_ 6 fun K hK => ?_
            refine wp_alloc_nm hB rfl ?_
            intro g5 wA hG5 hge5 hgw5 hbA hBA
            replace hB := hBA
            try have hlt6 := hG6.lt
            try replace hG6 := hG6.kept hbA
            try replace hC := hC.kept hbA
            refine hK.out _ _ hB ?_
            clear hK K
            try simp only [Act.put, pA_, pB_, pC_]
            refine bD_ 8 fun K hK => ?_
            have hne56 : g5 ≠ g6 := by omega
            refine wp_store_nm (l := z3) (l2 := r) hB hge5 _ _ rfl rfl rfl hG5 z3_nm hr ?_
            intro wS hG5S hwS hBS
            replace hB := hBS
            replace hG6 := hG6.wrote hwS (by omega)
            refine hK.out _ _ hB ?_
            clear hK K
            try simp only [Act.put, pA_, pB_, pC_]
            refine bD_ 9 fun K hK => ?_
            refine wp_store_nm (l := z3) (l2 := s) hB hge6 _ _ rfl rfl rfl hG6 z3_nm hs ?_
            intro wS2 hG6S hwS2 hBS2
            replace hB := hBS2
            replace hG5S := hG5S.wrote hwS2 (by omega)
            refine hK.out _ _ hB ?_
            clear hK K
            try simp only [Act.put, pA_, pB_, pC_]
            refine wpB_done (by kernel_rfl) ?_
            go_wp2_with fail
            go_meet
            exact ⟨g5, g6, r, s, rfl, rfl, hge5, hge6, hne56, hr, hs, hvr, hvs, hG5S, hG6S, hB⟩
          · refine wp_alloc_nm hB rfl ?_
            intro g5 wA hG5 hge5 hgw5 hbA hBA
            replace hB := hBA
            try have hlt6 := hG6.lt
            try replace hG6 := hG6.kept hbA
            try replace hC := hC.kept hbA
            refine hK.out _ _ hB ?_
            clear hK K
            try simp only [Act.put, pA_, pB_, pC_]
            refine bD_ 5 fun K hK => ?_
            go_simp
            refine (numberOf_any _ (k.drop 16) _ (HS.out.kept hB) (by rw [List.length_drop, HK32.out]; decide)).mono ?_
            rintro e wq ⟨s, rfl, hs, hvs, bq⟩
            replace hB := stepB hB bq
            try replace hG5 := hG5.kept bq
            try replace hG6 := hG6.kept bq
            refine hK.out _ _ hB ?_
            clear hK K
            try simp only [Act.put, pA_, pB_, pC_]
            refine bD_ 8 fun K hK => ?_
            have hne56 : g5 ≠ g6 := by omega
            refine wp_store_nm (l := z3) (l2 := r) hB hge5 _ _ rfl rfl rfl hG5 z3_nm hr ?_
            intro wS hG5S hwS hBS
            replace hB := hBS
            replace hG6 := hG6.wrote hwS (by omega)
            refine hK.out _ _ hB ?_
            clear hK K
            try simp only [Act.put, pA_, pB_, pC_]
            refine bD_ 9 fun K hK => ?_
            refine wp_store_nm (l := z3) (l2 := s) hB hge6 _ _ rfl rfl rfl hG6 z3_nm hs ?_
            intro wS2 hG6S hwS2 hBS2
            replace hB := hBS2
            replace hG5S := hG5S.wrote hwS2 (by omega)
            refine hK.out _ _ hB ?_
            clear hK K
            try simp only [Act.put, pA_, pB_, pC_]
            refine wpB_done (by kernel_rfl) ?_
            go_wp2_with fail
            go_meet
            exact ⟨g5, g6, r, s, rfl, rfl, hge5, hge6, hne56, hr, hs, hvr, hvs, hG5S, hG6S, hB⟩
      · refine wp_alloc_nm hB rfl ?_
        intro g5 wA hG5 hge5 hgw5 hbA hBA
        replace hB := hBA
        try have hlt6 := hG6.lt
        try replace hG6 := hG6.kept hbA
        try replace hC := hC.kept hbA
        refine hK.out _ _ hB ?_
        clear hK K
        try simp only [Act.put, pA_, pB_, pC_]
        refine bF_ 2 7 (fun K hK => ?_) (fun K hK => ?_)
        · go_simp
          refine (numberOf_any _ (clP k) _ hC (by rw [clP_length]; decide)).mono ?_
          rintro e wq ⟨r, rfl, hr, hvr, bq⟩
          replace hB := stepB hB bq
          try replace hG5 := hG5.kept bq
          try replace hG6 := hG6.kept bq
          refine hK.out _ _ hB ?_
          clear hK K
          try simp only [Act.put, pA_, pB_, pC_]
          refine bF_ 5 7 (fun K hK => ?_) (fun K hK => ?_)
          · go_simp
            refine (numberOf_any _ (k.drop 16) _ (HS.out.kept hB) (by rw [List.length_drop, HK32.out]; decide)).mono ?_
            rintro e wq ⟨s, rfl, hs, hvs, bq⟩
            replace hB := stepB hB bq
            try replace hG5 := hG5.kept bq
            try replace hG6 := hG6.kept bq
            refine hK.out _ _ hB ?_
            clear hK K
            try simp only [Act.put, pA_, pB_, pC_]
            refine bD_ 7 fun K hK => ?_
            refine wp_alloc_nm hB rfl ?_
            intro g6 wA hG6 hge6 hgw6 hbA hBA
            replace hB := hBA
            try have hlt5 := hG5.lt
            try replace hG5 := hG5.kept hbA
            try replace hC := hC.kept hbA
            refine hK.out _ _ hB ?_
            clear hK K
            try simp only [Act.put, pA_, pB_, pC_]
            refine bD_ 8 fun K hK => ?_
            have hne56 : g5 ≠ g6 := by omega
            refine wp_store_nm (l := z3) (l2 := r) hB hge5 _ _ rfl rfl rfl hG5 z3_nm hr ?_
            intro wS hG5S hwS hBS
            replace hB := hBS
            replace hG6 := hG6.wrote hwS (by omega)
            refine hK.out _ _ hB ?_
            clear hK K
            try simp only [Act.put, pA_, pB_, pC_]
            refine bD_ 9 fun K hK => ?_
            refine wp_store_nm (l := z3) (l2 := s) hB hge6 _ _ rfl rfl rfl hG6 z3_nm hs ?_
            intro wS2 hG6S hwS2 hBS2
            replace hB := hBS2
            replace hG5S := hG5S.wrote hwS2 (by omega)
            refine hK.out _ _ hB ?_
            clear hK K
            try simp only [Act.put, pA_, pB_, pC_]
            refine wpB_done (by kernel_rfl) ?_
            go_wp2_with fail
            go_meet
            exact ⟨g5, g6, r, s, rfl, rfl, hge5, hge6, hne56, hr, hs, hvr, hvs, hG5S, hG6S, hB⟩
          · refine wp_alloc_nm hB rfl ?_
            intro g6 wA hG6 hge6 hgw6 hbA hBA
            replace hB := hBA
            try have hlt5 := hG5.lt
            try replace hG5 := hG5.kept hbA
            try replace hC := hC.kept hbA
            refine hK.out _ _ hB ?_
            clear hK K
            try simp only [Act.put, pA_, pB_, pC_]
            refine bD_ 5 fun K hK => ?_
            go_simp
            refine (numberOf_any _ (k.drop 16) _ (HS.out.kept hB) (by rw [List.length_drop, HK32.out]; decide)).mono ?_
            rintro e wq ⟨s, rfl, hs, hvs, bq⟩
            replace hB := stepB hB bq
            try replace hG5 := hG5.kept bq
            try replace hG6 := hG6.kept bq
            refine hK.out _ _ hB ?_
            clear hK K
            try simp only [Act.put, pA_, pB_, pC_]
            refine bD_ 8 fun K hK => ?_
            have hne56 : g5 ≠ g6 := by omega
            refine wp_store_nm (l := z3) (l2 := r) hB hge5 _ _ rfl rfl rfl hG5 z3_nm hr ?_
            intro wS hG5S hwS hBS
            replace hB := hBS
            replace hG6 := hG6.wrote hwS (by omega)
            refine hK.out _ _ hB ?_
            clear hK K
            try simp only [Act.put, pA_, pB_, pC_]
            refine bD_ 9 fun K hK => ?_
            refine wp_store_nm (l := z3) (l2 := s) hB hge6 _ _ rfl rfl rfl hG6 z3_nm hs ?_
            intro wS2 hG6S hwS2 hBS2
            replace hB := hBS2
            replace hG5S := hG5S.wrote hwS2 (by omega)
            refine hK.out _ _ hB ?_
            clear hK K
            try simp only [Act.put, pA_, pB_, pC_]
            refine wpB_done (by kernel_rfl) ?_
            go_wp2_with fail
            go_meet
            exact ⟨g5, g6, r, s, rfl, rfl, hge5, hge6, hne56, hr, hs, hvr, hvs, hG5S, hG6S, hB⟩
        · refine wp_alloc_nm hB rfl ?_
          intro g6 wA hG6 hge6 hgw6 hbA hBA
          replace hB := hBA
          try have hlt5 := hG5.lt
          try replace hG5 := hG5.kept hbA
          try replace hC := hC.kept hbA
          refine hK.out _ _ hB ?_
          clear hK K
          try simp only [Act.put, pA_, pB_, pC_]
          refine bD_ 2 fun K hK => ?_
          go_simp
          refine (numberOf_any _ (clP k) _ hC (by rw [clP_length]; decide)).mono ?_
          rintro e wq ⟨r, rfl, hr, hvr, bq⟩
          replace hB := stepB hB bq
          try replace hG5 := hG5.kept bq
          try replace hG6 := hG6.kept bq
          refine hK.out _ _ hB ?_
          clear hK K
          try simp only [Act.put, pA_, pB_, pC_]
          refine bD_ 5 fun K hK => ?_
          go_simp
          refine (numberOf_any _ (k.drop 16) _ (HS.out.kept hB) (by rw [List.length_drop, HK32.out]; decide)).mono ?_
          rintro e wq ⟨s, rfl, hs, hvs, bq⟩
          replace hB := stepB hB bq
          try replace hG5 := hG5.kept bq
          try replace hG6 := hG6.kept bq
          refine hK.out _ _ hB ?_
          clear hK K
          try simp only [Act.put, pA_, pB_, pC_]
          refine bD_ 8 fun K hK => ?_
          have hne56 : g5 ≠ g6 := by omega
          refine wp_store_nm (l := z3) (l2 := r) hB hge5 _ _ rfl rfl rfl hG5 z3_nm hr ?_
          intro wS hG5S hwS hBS
          replace hB := hBS
          replace hG6 := hG6.wrote hwS (by omega)
          refine hK.out _ _ hB ?_
          clear hK K
          try simp only [Act.put, pA_, pB_, pC_]
          refine bD_ 9 fun K hK => ?_
          refine wp_store_nm (l := z3) (l2 := s) hB hge6 _ _ rfl rfl rfl hG6 z3_nm hs ?_
          intro wS2 hG6S hwS2 hBS2
          replace hB := hBS2
          replace hG5S := hG5S.wrote hwS2 (by omega)
          refine hK.out _ _ hB ?_
          clear hK K
          try simp only [Act.put, pA_, pB_, pC_]
          refine wpB_done (by kernel_rfl) ?_
          go_wp2_with fail
          go_meet
          exact ⟨g5, g6, r, s, rfl, rfl, hge5, hge6, hne56, hr, hs, hvr, hvs, hG5S, hG6S, hB⟩
      · refine wp_alloc_nm hB rfl ?_
        intro g6 wA hG6 hge6 hgw6 hbA hBA
        replace hB := hBA
        try have hlt5 := hG5.lt
        try replace hG5 := hG5.kept hbA
        try replace hC := hC.kept hbA
        refine hK.out _ _ hB ?_
        clear hK K
        try simp only [Act.put, pA_, pB_, pC_]
        refine bF_ 2 6 (fun K hK => ?_) (fun K hK => ?_)
        · go_simp
          refine (numberOf_any _ (clP k) _ hC (by rw [clP_length]; decide)).mono ?_
          rintro e wq ⟨r, rfl, hr, hvr, bq⟩
          replace hB := stepB hB bq
          try replace hG5 := hG5.kept bq
          try replace hG6 := hG6.kept bq
          refine hK.out _ _ hB ?_
          clear hK K
          try simp only [Act.put, pA_, pB_, pC_]
          refine bF_ 5 6 (fun K hK => ?_) (fun K hK => ?_)
          · go_simp
            refine (numberOf_any _ (k.drop 16) _ (HS.out.kept hB) (by rw [List.length_drop, HK32.out]; decide)).mono ?_
            rintro e wq ⟨s, rfl, hs, hvs, bq⟩
            replace hB := stepB hB bq
            try replace hG5 := hG5.kept bq
            try replace hG6 := hG6.kept bq
            refine hK.out _ _ hB ?_
            clear hK K
            try simp only [Act.put, pA_, pB_, pC_]
            refine bD_ 6 fun K hK => ?_
            refine wp_alloc_nm hB rfl ?_
            intro g5 wA hG5 hge5 hgw5 hbA hBA
            replace hB := hBA
            try have hlt6 := hG6.lt
            try replace hG6 := hG6.kept hbA
            try replace hC := hC.kept hbA
            refine hK.out _ _ hB ?_
            clear hK K
            try simp only [Act.put, pA_, pB_, pC_]
            refine bD_ 8 fun K hK => ?_
            have hne56 : g5 ≠ g6 := by omega
            refine wp_store_nm (l := z3) (l2 := r) hB hge5 _ _ rfl rfl rfl hG5 z3_nm hr ?_
            intro wS hG5S hwS hBS
            replace hB := hBS
            replace hG6 := hG6.wrote hwS (by omega)
            refine hK.out _ _ hB ?_
            clear hK K
            try simp only [Act.put, pA_, pB_, pC_]
            refine bD_ 9 fun K hK => ?_
            refine wp_store_nm (l := z3) (l2 := s) hB hge6 _ _ rfl rfl rfl hG6 z3_nm hs ?_
            intro wS2 hG6S hwS2 hBS2
            replace hB := hBS2
            replace hG5S := hG5S.wrote hwS2 (by omega)
            refine hK.out _ _ hB ?_
            clear hK K
            try simp only [Act.put, pA_, pB_, pC_]
            refine wpB_done (by kernel_rfl) ?_
            go_wp2_with fail
            go_meet
            exact ⟨g5, g6, r, s, rfl, rfl, hge5, hge6, hne56, hr, hs, hvr, hvs, hG5S, hG6S, hB⟩
          · refine wp_alloc_nm hB rfl ?_
            intro g5 wA hG5 hge5 hgw5 hbA hBA
            replace hB := hBA
            try have hlt6 := hG6.lt
            try replace hG6 := hG6.kept hbA
            try replace hC := hC.kept hbA
            refine hK.out _ _ hB ?_
            clear hK K
            try simp only [Act.put, pA_, pB_, pC_]
            refine bD_ 5 fun K hK => ?_
            go_simp
            refine (numberOf_any _ (k.drop 16) _ (HS.out.kept hB) (by rw [List.length_drop, HK32.out]; decide)).mono ?_
            rintro e wq ⟨s, rfl, hs, hvs, bq⟩
            replace hB := stepB hB bq
            try replace hG5 := hG5.kept bq
            try replace hG6 := hG6.kept bq
            refine hK.out _ _ hB ?_
            clear hK K
            try simp only [Act.put, pA_, pB_, pC_]
            refine bD_ 8 fun K hK => ?_
            have hne56 : g5 ≠ g6 := by omega
            refine wp_store_nm (l := z3) (l2 := r) hB hge5 _ _ rfl rfl rfl hG5 z3_nm hr ?_
            intro wS hG5S hwS hBS
            replace hB := hBS
            replace hG6 := hG6.wrote hwS (by omega)
            refine hK.out _ _ hB ?_
            clear hK K
            try simp only [Act.put, pA_, pB_, pC_]
            refine bD_ 9 fun K hK => ?_
            refine wp_store_nm (l := z3) (l2 := s) hB hge6 _ _ rfl rfl rfl hG6 z3_nm hs ?_
            intro wS2 hG6S hwS2 hBS2
            replace hB := hBS2
            replace hG5S := hG5S.wrote hwS2 (by omega)
            refine hK.out _ _ hB ?_
            clear hK K
            try simp only [Act.put, pA_, pB_, pC_]
            refine wpB_done (by kernel_rfl) ?_
            go_wp2_with fail
            go_meet
            exact ⟨g5, g6, r, s, rfl, rfl, hge5, hge6, hne56, hr, hs, hvr, hvs, hG5S, hG6S, hB⟩
        · refine wp_alloc_nm hB rfl ?_
          intro g5 wA hG5 hge5 hgw5 hbA hBA
          replace hB := hBA
          try have hlt6 := hG6.lt
          try replace hG6 := hG6.kept hbA
          try replace hC := hC.kept hbA
          refine hK.out _ _ hB ?_
          clear hK K
          try simp only [Act.put, pA_, pB_, pC_]
          refine bD_ 2 fun K hK => ?_
          go_simp
          refine (numberOf_any _ (clP k) _ hC (by rw [clP_length]; decide)).mono ?_
          rintro e wq ⟨r, rfl, hr, hvr, bq⟩
          replace hB := stepB hB bq
          try replace hG5 := hG5.kept bq
          try replace hG6 := hG6.kept bq
          refine hK.out _ _ hB ?_
          clear hK K
          try simp only [Act.put, pA_, pB_, pC_]
          refine bD_ 5 fun K hK => ?_
          go_simp
          refine (numberOf_any _ (k.drop 16) _ (HS.out.kept hB) (by rw [List.length_drop, HK32.out]; decide)).mono ?_
          rintro e wq ⟨s, rfl, hs, hvs, bq⟩
          replace hB := stepB hB bq
          try replace hG5 := hG5.kept bq
          try replace hG6 := hG6.kept bq
          refine hK.out _ _ hB ?_
          clear hK K
          try simp only [Act.put, pA_, pB_, pC_]
          refine bD_ 8 fun K hK => ?_
          have hne56 : g5 ≠ g6 := by omega
          refine wp_store_nm (l := z3) (l2 := r) hB hge5 _ _ rfl rfl rfl hG5 z3_nm hr ?_
          intro wS hG5S hwS hBS
          replace hB := hBS
          replace hG6 := hG6.wrote hwS (by omega)
          refine hK.out _ _ hB ?_
          clear hK K
          try simp only [Act.put, pA_, pB_, pC_]
          refine bD_ 9 fun K hK => ?_
          refine wp_store_nm (l := z3) (l2 := s) hB hge6 _ _ rfl rfl rfl hG6 z3_nm hs ?_
          intro wS2 hG6S hwS2 hBS2
          replace hB := hBS2
          replace hG5S := hG5S.wrote hwS2 (by omega)
          refine hK.out _ _ hB ?_
          clear hK K
          try simp only [Act.put, pA_, pB_, pC_]
          refine wpB_done (by kernel_rfl) ?_
          go_wp2_with fail
          go_meet
          exact ⟨g5, g6, r, s, rfl, rfl, hge5, hge6, hne56, hr, hs, hvr, hvs, hG5S, hG6S, hB⟩
    · refine wp_alloc_nm hB rfl ?_
      intro g5 wA hG5 hge5 hgw5 hbA hBA
      replace hB := hBA
      try have hlt6 := hG6.lt
      try replace hG6 := hG6.kept hbA
      try replace hC := hC.kept hbA
      refine hK.out _ _ hB ?_
      clear hK K
      try simp only [Act.put, pA_, pB_, pC_]
      refine bF_ 1 7 (fun K hK => ?_) (fun K hK => ?_)
      · go_simp
        refine (pclamp_any _ k _ (HT.out.kept hB) (HK.out.kept hB) HK32.out).mono ?_
        rintro e wq ⟨vC, rfl, hN1⟩
        have hC := hN1.rd
        replace hB := stepB hB hN1.2
        try replace hG5 := hG5.kept hN1.2
        try replace hG6 := hG6.kept hN1.2
        refine hK.out _ _ hB ?_
        clear hK K
        try simp only [Act.put, pA_, pB_, pC_]
        refine bF_ 2 7 (fun K hK => ?_) (fun K hK => ?_)
        · go_simp
          refine (numberOf_any _ (clP k) _ hC (by rw [clP_length]; decide)).mono ?_
          rintro e wq ⟨r, rfl, hr, hvr, bq⟩
          replace hB := stepB hB bq
          try replace hG5 := hG5.kept bq
          try replace hG6 := hG6.kept bq
          refine hK.out _ _ hB ?_
          clear hK K
          try simp only [Act.put, pA_, pB_, pC_]
          refine bF_ 5 7 (fun K hK => ?_) (fun K hK => ?_)
          · go_simp
            refine (numberOf_any _ (k.drop 16) _ (HS.out.kept hB) (by rw [List.length_drop, HK32.out]; decide)).mono ?_
            rintro e wq ⟨s, rfl, hs, hvs, bq⟩
            replace hB := stepB hB bq
            try replace hG5 := hG5.kept bq
            try replace hG6 := hG6.kept bq
            refine hK.out _ _ hB ?_
            clear hK K
            try simp only [Act.put, pA_, pB_, pC_]
            refine bD_ 7 fun K hK => ?_
            refine wp_alloc_nm hB rfl ?_
            intro g6 wA hG6 hge6 hgw6 hbA hBA
            replace hB := hBA
            try have hlt5 := hG5.lt
            try replace hG5 := hG5.kept hbA
            try replace hC := hC.kept hbA
            refine hK.out _ _ hB ?_
            clear hK K
            try simp only [Act.put, pA_, pB_, pC_]
            refine bD_ 8 fun K hK => ?_
            have hne56 : g5 ≠ g6 := by omega
            refine wp_store_nm (l := z3) (l2 := r) hB hge5 _ _ rfl rfl rfl hG5 z3_nm hr ?_
            intro wS hG5S hwS hBS
            replace hB := hBS
            replace hG6 := hG6.wrote hwS (by omega)
            refine hK.out _ _ hB ?_
            clear hK K
            try simp only [Act.put, pA_, pB_, pC_]
            refine bD_ 9 fun K hK => ?_
            refine wp_store_nm (l := z3) (l2 := s) hB hge6 _ _ rfl rfl rfl hG6 z3_nm hs ?_
            intro wS2 hG6S hwS2 hBS2
            replace hB := hBS2
            replace hG5S := hG5S.wrote hwS2 (by omega)
            refine hK.out _ _ hB ?_
            clear hK K
            try simp only [Act.put, pA_, pB_, pC_]
            refine wpB_done (by kernel_rfl) ?_
            go_wp2_with fail
            go_meet
            exact ⟨g5, g6, r, s, rfl, rfl, hge5, hge6, hne56, hr, hs, hvr, hvs, hG5S, hG6S, hB⟩
          · refine wp_alloc_nm hB rfl ?_
            intro g6 wA hG6 hge6 hgw6 hbA hBA
            replace hB := hBA
            try have hlt5 := hG5.lt
            try replace hG5 := hG5.kept hbA
            try replace hC := hC.kept hbA
            refine hK.out _ _ hB ?_
            clear hK K
            try simp only [Act.put, pA_, pB_, pC_]
            refine bD_ 5 fun K hK => ?_
            go_simp
            refine (numberOf_any _ (k.drop 16) _ (HS.out.kept hB) (by rw [List.length_drop, HK32.out]; decide)).mono ?_
            rintro e wq ⟨s, rfl, hs, hvs, bq⟩
            replace hB := stepB hB bq
            try replace hG5 := hG5.kept bq
            try replace hG6 := hG6.kept bq
            refine hK.out _ _ hB ?_
            clear hK K
            try simp only [Act.put, pA_, pB_, pC_]
            refine bD_ 8 fun K hK => ?_
            have hne56 : g5 ≠ g6 := by omega
            refine wp_store_nm (l := z3) (l2 := r) hB hge5 _ _ rfl rfl rfl hG5 z3_nm hr ?_
            intro wS hG5S hwS hBS
            replace hB := hBS
            replace hG6 := hG6.wrote hwS (by omega)
            refine hK.out _ _ hB ?_
            clear hK K
            try simp only [Act.put, pA_, pB_, pC_]
            refine bD_ 9 fun K hK => ?_
            refine wp_store_nm (l := z3) (l2 := s) hB hge6 _ _ rfl rfl rfl hG6 z3_nm hs ?_
            intro wS2 hG6S hwS2 hBS2
            replace hB := hBS2
            replace hG5S := hG5S.wrote hwS2 (by omega)
            refine hK.out _ _ hB ?_
            clear hK K
            try simp only [Act.put, pA_, pB_, pC_]
            refine wpB_done (by kernel_rfl) ?_
            go_wp2_with fail
            go_meet
            exact ⟨g5, g6, r, s, rfl, rfl, hge5, hge6, hne56, hr, hs, hvr, hvs, hG5S, hG6S, hB⟩
        · refine wp_alloc_nm hB rfl ?_
          intro g6 wA hG6 hge6 hgw6 hbA hBA
          replace hB := hBA
          try have hlt5 := hG5.lt
          try replace hG5 := hG5.kept hbA
          try replace hC := hC.kept hbA
          refine hK.out _ _ hB ?_
          clear hK K
          try simp only [Act.put, pA_, pB_, pC_]
          refine bD_ 2 fun K hK => ?_
          go_simp
          refine (numberOf_any _ (clP k) _ hC (by rw [clP_length]; decide)).mono ?_
          rintro e wq ⟨r, rfl, hr, hvr, bq⟩
          replace hB := stepB hB bq
          try replace hG5 := hG5.kept bq
          try replace hG6 := hG6.kept bq
          refine hK.out _ _ hB ?_
          clear hK K
          try simp only [Act.put, pA_, pB_, pC_]
          refine bD_ 5 fun K hK => ?_
          go_simp
          refine (numberOf_any _ (k.drop 16) _ (HS.out.kept hB) (by rw [List.length_drop, HK32.out]; decide)).mono ?_
          rintro e wq ⟨s, rfl, hs, hvs, bq⟩
          replace hB := stepB hB bq
          try replace hG5 := hG5.kept bq
          try replace hG6 := hG6.kept bq
          refine hK.out _ _ hB ?_
          clear hK K
          try simp only [Act.put, pA_, pB_, pC_]
          refine bD_ 8 fun K hK => ?_
          have hne56 : g5 ≠ g6 := by omega
          refine wp_store_nm (l := z3) (l2 := r) hB hge5 _ _ rfl rfl rfl hG5 z3_nm hr ?_
          intro wS hG5S hwS hBS
          replace hB := hBS
          replace hG6 := hG6.wrote hwS (by omega)
          refine hK.out _ _ hB ?_
          clear hK K
          try simp only [Act.put, pA_, pB_, pC_]
          refine bD_ 9 fun K hK => ?_
          refine wp_store_nm (l := z3) (l2 := s) hB hge6 _ _ rfl rfl rfl hG6 z3_nm hs ?_
          intro wS2 hG6S hwS2 hBS2
          replace hB := hBS2
          replace hG5S := hG5S.wrote hwS2 (by omega)
          refine hK.out _ _ hB ?_
          clear hK K
          try simp only [Act.put, pA_, pB_, pC_]
          refine wpB_done (by kernel_rfl) ?_
          go_wp2_with fail
          go_meet
          exact ⟨g5, g6, r, s, rfl, rfl, hge5, hge6, hne56, hr, hs, hvr, hvs, hG5S, hG6S, hB⟩
      · refine wp_alloc_nm hB rfl ?_
        intro g6 wA hG6 hge6 hgw6 hbA hBA
        replace hB := hBA
        try have hlt5 := hG5.lt
        try replace hG5 := hG5.kept hbA
        try replace hC := hC.kept hbA
        refine hK.out _ _ hB ?_
        clear hK K
        try simp only [Act.put, pA_, pB_, pC_]
        refine bD_ 1 fun K hK => ?_
        go_simp
        refine (pclamp_any _ k _ (HT.out.kept hB) (HK.out.kept hB) HK32.out).mono ?_
        rintro e wq ⟨vC, rfl, hN1⟩
        have hC := hN1.rd
        replace hB := stepB hB hN1.2
        try replace hG5 := hG5.kept hN1.2
        try replace hG6 := hG6.kept hN1.2
        refine hK.out _ _ hB ?_
        clear hK K
        try simp only [Act.put, pA_, pB_, pC_]
        refine bD_ 2 fun K hK => ?_
        go_simp
        refine (numberOf_any _ (clP k) _ hC (by rw [clP_length]; decide)).mono ?_
        rintro e wq ⟨r, rfl, hr, hvr, bq⟩
        replace hB := stepB hB bq
        try replace hG5 := hG5.kept bq
        try replace hG6 := hG6.kept bq
        refine hK.out _ _ hB ?_
        clear hK K
        try simp only [Act.put, pA_, pB_, pC_]
        refine bD_ 5 fun K hK => ?_
        go_simp
        refine (numberOf_any _ (k.drop 16) _ (HS.out.kept hB) (by rw [List.length_drop, HK32.out]; decide)).mono ?_
        rintro e wq ⟨s, rfl, hs, hvs, bq⟩
        replace hB := stepB hB bq
        try replace hG5 := hG5.kept bq
        try replace hG6 := hG6.kept bq
        refine hK.out _ _ hB ?_
        clear hK K
        try simp only [Act.put, pA_, pB_, pC_]
        refine bD_ 8 fun K hK => ?_
        have hne56 : g5 ≠ g6 := by omega
        refine wp_store_nm (l := z3) (l2 := r) hB hge5 _ _ rfl rfl rfl hG5 z3_nm hr ?_
        intro wS hG5S hwS hBS
        replace hB := hBS
        replace hG6 := hG6.wrote hwS (by omega)
        refine hK.out _ _ hB ?_
        clear hK K
        try simp only [Act.put, pA_, pB_, pC_]
        refine bD_ 9 fun K hK => ?_
        refine wp_store_nm (l := z3) (l2 := s) hB hge6 _ _ rfl rfl rfl hG6 z3_nm hs ?_
        intro wS2 hG6S hwS2 hBS2
        replace hB := hBS2
        replace hG5S := hG5S.wrote hwS2 (by omega)
        refine hK.out _ _ hB ?_
        clear hK K
        try simp only [Act.put, pA_, pB_, pC_]
        refine wpB_done (by kernel_rfl) ?_
        go_wp2_with fail
        go_meet
        exact ⟨g5, g6, r, s, rfl, rfl, hge5, hge6, hne56, hr, hs, hvr, hvs, hG5S, hG6S, hB⟩
    · refine wp_alloc_nm hB rfl ?_
      intro g6 wA hG6 hge6 hgw6 hbA hBA
      replace hB := hBA
      try have hlt5 := hG5.lt
      try replace hG5 := hG5.kept hbA
      try replace hC := hC.kept hbA
      refine hK.out _ _ hB ?_
      clear hK K
      try simp only [Act.put, pA_, pB_, pC_]
      refine bF_ 1 6 (fun K hK => ?_) (fun K hK => ?_)
      · go_simp
        refine (pclamp_any _ k _ (HT.out.kept hB) (HK.out.kept hB) HK32.out).mono ?_
        rintro e wq ⟨vC, rfl, hN1⟩
        have hC := hN1.rd
        replace hB := stepB hB hN1.2
        try replace hG5 := hG5.kept hN1.2
        try replace hG6 := hG6.kept hN1.2
        refine hK.out _ _ hB ?_
        clear hK K
        try simp only [Act.put, pA_, pB_, pC_]
        refine bF_ 2 6 (fun K hK => ?_) (fun K hK => ?_)
        · go_simp
          refine (numberOf_any _ (clP k) _ hC (by rw [clP_length]; decide)).mono ?_
          rintro e wq ⟨r, rfl, hr, hvr, bq⟩
          replace hB := stepB hB bq
          try replace hG5 := hG5.kept bq
          try replace hG6 := hG6.kept bq
          refine hK.out _ _ hB ?_
          clear hK K
          try simp only [Act.put, pA_, pB_, pC_]
          refine bF_ 5 6 (fun K hK => ?_) (fun K hK => ?_)
          · go_simp
            refine (numberOf_any _ (k.drop 16) _ (HS.out.kept hB) (by rw [List.length_drop, HK32.out]; decide)).mono ?_
            rintro e wq ⟨s, rfl, hs, hvs, bq⟩
            replace hB := stepB hB bq
            try replace hG5 := hG5.kept bq
            try replace hG6 := hG6.kept bq
            refine hK.out _ _ hB ?_
            clear hK K
            try simp only [Act.put, pA_, pB_, pC_]
            refine bD_ 6 fun K hK => ?_
            refine wp_alloc_nm hB rfl ?_
            intro g5 wA hG5 hge5 hgw5 hbA hBA
            replace hB := hBA
            try have hlt6 := hG6.lt
            try replace hG6 := hG6.kept hbA
            try replace hC := hC.kept hbA
            refine hK.out _ _ hB ?_
            clear hK K
            try simp only [Act.put, pA_, pB_, pC_]
            refine bD_ 8 fun K hK => ?_
            have hne56 : g5 ≠ g6 := by omega
            refine wp_store_nm (l := z3) (l2 := r) hB hge5 _ _ rfl rfl rfl hG5 z3_nm hr ?_
            intro wS hG5S hwS hBS
            replace hB := hBS
            replace hG6 := hG6.wrote hwS (by omega)
            refine hK.out _ _ hB ?_
            clear hK K
            try simp only [Act.put, pA_, pB_, pC_]
            refine bD_ 9 fun K hK => ?_
            refine wp_store_nm (l := z3) (l2 := s) hB hge6 _ _ rfl rfl rfl hG6 z3_nm hs ?_
            intro wS2 hG6S hwS2 hBS2
            replace hB := hBS2
            replace hG5S := hG5S.wrote hwS2 (by omega)
            refine hK.out _ _ hB ?_
            clear hK K
            try simp only [Act.put, pA_, pB_, pC_]
            refine wpB_done (by kernel_rfl) ?_
            go_wp2_with fail
            go_meet
            exact ⟨g5, g6, r, s, rfl, rfl, hge5, hge6, hne56, hr, hs, hvr, hvs, hG5S, hG6S, hB⟩
          · refine wp_alloc_nm hB rfl ?_
            intro g5 wA hG5 hge5 hgw5 hbA hBA
            replace hB := hBA
            try have hlt6 := hG6.lt
            try replace hG6 := hG6.kept hbA
            try replace hC := hC.kept hbA
            refine hK.out _ _ hB ?_
            clear hK K
            try simp only [Act.put, pA_, pB_, pC_]
            refine bD_ 5 fun K hK => ?_
            go_simp
            refine (numberOf_any _ (k.drop 16) _ (HS.out.kept hB) (by rw [List.length_drop, HK32.out]; decide)).mono ?_
            rintro e wq ⟨s, rfl, hs, hvs, bq⟩
            replace hB := stepB hB bq
            try replace hG5 := hG5.kept bq
            try replace hG6 := hG6.kept bq
            refine hK.out _ _ hB ?_
            clear hK K
            try simp only [Act.put, pA_, pB_, pC_]
            refine bD_ 8 fun K hK => ?_
            have hne56 : g5 ≠ g6 := by omega
            refine wp_store_nm (l := z3) (l2 := r) hB hge5 _ _ rfl rfl rfl hG5 z3_nm hr ?_
            intro wS hG5S hwS hBS
            replace hB := hBS
            replace hG6 := hG6.wrote hwS (by omega)
            refine hK.out _ _ hB ?_
            clear hK K
            try simp only [Act.put, pA_, pB_, pC_]
            refine bD_ 9 fun K hK => ?_
            refine wp_store_nm (l := z3) (l2 := s) hB hge6 _ _ rfl rfl rfl hG6 z3_nm hs ?_
            intro wS2 hG6S hwS2 hBS2
            replace hB := hBS2
            replace hG5S := hG5S.wrote hwS2 (by omega)
            refine hK.out _ _ hB ?_
            clear hK K
            try simp only [Act.put, pA_, pB_, pC_]
            refine wpB_done (by kernel_rfl) ?_
            go_wp2_with fail
            go_meet
            exact ⟨g5, g6, r, s, rfl, rfl, hge5, hge6, hne56, hr, hs, hvr, hvs, hG5S, hG6S, hB⟩
        · refine wp_alloc_nm hB rfl ?_
          intro g5 wA hG5 hge5 hgw5 hbA hBA
          replace hB := hBA
          try have hlt6 := hG6.lt
          try replace hG6 := hG6.kept hbA
          try replace hC := hC.kept hbA
          refine hK.out _ _ hB ?_
          clear hK K
          try simp only [Act.put, pA_, pB_, pC_]
          refine bD_ 2 fun K hK => ?_
          go_simp
          refine (numberOf_any _ (clP k) _ hC (by rw [clP_length]; decide)).mono ?_
          rintro e wq ⟨r, rfl, hr, hvr, bq⟩
          replace hB := stepB hB bq
          try replace hG5 := hG5.kept bq
          try replace hG6 := hG6.kept bq
          refine hK.out _ _ hB ?_
          clear hK K
          try simp only [Act.put, pA_, pB_, pC_]
          refine bD_ 5 fun K hK => ?_
          go_simp
          refine (numberOf_any _ (k.drop 16) _ (HS.out.kept hB) (by rw [List.length_drop, HK32.out]; decide)).mono ?_
          rintro e wq ⟨s, rfl, hs, hvs, bq⟩
          replace hB := stepB hB bq
          try replace hG5 := hG5.kept bq
          try replace hG6 := hG6.kept bq
          refine hK.out _ _ hB ?_
          clear hK K
          try simp only [Act.put, pA_, pB_, pC_]
          refine bD_ 8 fun K hK => ?_
          have hne56 : g5 ≠ g6 := by omega
          refine wp_store_nm (l := z3) (l2 := r) hB hge5 _ _ rfl rfl rfl hG5 z3_nm hr ?_
          intro wS hG5S hwS hBS
          replace hB := hBS
          replace hG6 := hG6.wrote hwS (by omega)
          refine hK.out _ _ hB ?_
          clear hK K
          try simp only [Act.put, pA_, pB_, pC_]
          refine bD_ 9 fun K hK => ?_
          refine wp_store_nm (l := z3) (l2 := s) hB hge6 _ _ rfl rfl rfl hG6 z3_nm hs ?_
          intro wS2 hG6S hwS2 hBS2
          replace hB := hBS2
          replace hG5S := hG5S.wrote hwS2 (by omega)
          refine hK.out _ _ hB ?_
          clear hK K
          try simp only [Act.put, pA_, pB_, pC_]
          refine wpB_done (by kernel_rfl) ?_
          go_wp2_with fail
          go_meet
          exact ⟨g5, g6, r, s, rfl, rfl, hge5, hge6, hne56, hr, hs, hvr, hvs, hG5S, hG6S, hB⟩
      · refine wp_alloc_nm hB rfl ?_
        intro g5 wA hG5 hge5 hgw5 hbA hBA
        replace hB := hBA
        try have hlt6 := hG6.lt
        try replace hG6 := hG6.kept hbA
        try replace hC := hC.kept hbA
        refine hK.out _ _ hB ?_
        clear hK K
        try simp only [Act.put, pA_, pB_, pC_]
        refine bD_ 1 fun K hK => ?_
        go_simp
        refine (pclamp_any _ k _ (HT.out.kept hB) (HK.out.kept hB) HK32.out).mono ?_
        rintro e wq ⟨vC, rfl, hN1⟩
        have hC := hN1.rd
        replace hB := stepB hB hN1.2
        try replace hG5 := hG5.kept hN1.2
        try replace hG6 := hG6.kept hN1.2
        refine hK.out _ _ hB ?_
        clear hK K
        try simp only [Act.put, pA_, pB_, pC_]
        refine bD_ 2 fun K hK => ?_
        go_simp
        refine (numberOf_any _ (clP k) _ hC (by rw [clP_length]; decide)).mono ?_
        rintro e wq ⟨r, rfl, hr, hvr, bq⟩
        replace hB := stepB hB bq
        try replace hG5 := hG5.kept bq
        try replace hG6 := hG6.kept bq
        refine hK.out _ _ hB ?_
        clear hK K
        try simp only [Act.put, pA_, pB_, pC_]
        refine bD_ 5 fun K hK => ?_
        go_simp
        refine (numberOf_any _ (k.drop 16) _ (HS.out.kept hB) (by rw [List.length_drop, HK32.out]; decide)).mono ?_
        rintro e wq ⟨s, rfl, hs, hvs, bq⟩
        replace hB := stepB hB bq
        try replace hG5 := hG5.kept bq
        try replace hG6 := hG6.kept bq
        refine hK.out _ _ hB ?_
        clear hK K
        try simp only [Act.put, pA_, pB_, pC_]
        refine bD_ 8 fun K hK => ?_
        have hne56 : g5 ≠ g6 := by omega
        refine wp_store_nm (l := z3) (l2 := r) hB hge5 _ _ rfl rfl rfl hG5 z3_nm hr ?_
        intro wS hG5S hwS hBS
        replace hB := hBS
        replace hG6 := hG6.wrote hwS (by omega)
        refine hK.out _ _ hB ?_
        clear hK K
        try simp only [Act.put, pA_, pB_, pC_]
        refine bD_ 9 fun K hK => ?_
        refine wp_store_nm (l := z3) (l2 := s) hB hge6 _ _ rfl rfl rfl hG6 z3_nm hs ?_
        intro wS2 hG6S hwS2 hBS2
        replace hB := hBS2
        replace hG5S := hG5S.wrote hwS2 (by omega)
        refine hK.out _ _ hB ?_
        clear hK K
        try simp only [Act.put, pA_, pB_, pC_]
        refine wpB_done (by kernel_rfl) ?_
        go_wp2_with fail
        go_meet
        exact ⟨g5, g6, r, s, rfl, rfl, hge5, hge6, hne56, hr, hs, hvr, hvs, hG5S, hG6S, hB⟩
  case rest =>
  obtain ⟨g5, g6, r, s, rfl, rfl, hge5, hge6, hne56, HR, HSn, HVr, HVs, r5, r6, hbw⟩ := hcut
  rename World => W0
  have hg5 := r5.lt
  have hg6 := r6.lt
  go_wp2_with (refine wpList_alloc_row (k := .u64) rfl 124 rfl (nI z3) (alloc_nm _) z3_nm.ne (nmMax z3_nm) ?_)
  intro w2 r7 b2 s2
  rw [z3_nm.len] at r7
  replace r5 := r5.kept b2
  replace r6 := r6.kept b2
  have hszW := hbw.size
  replace hbw := stepB hbw b2
  clear b2 s2
  have HR2 : Hid (wv r < 21267647932558653966460912964485513216) := by
    show _ < _
    rw [HVr.out]
    exact clP_lt k
  go_wp2
  go_loopw [1] (fun v wx => ∃ (j : Nat) (X : List Nat), Rd w v (b.drop (16 * j)) ∧ Hid (j ≤ nblk b.length) ∧ Hid (Nm3 X) ∧ Hid (wv X % p8 = accN (leN (clP k)) b j) ∧ Hid (wv X < 1701411834604692317316873037158841057280) ∧ RowAt .u64 124 g5 3 (nI r) wx ∧ RowAt .u64 124 g6 3 (nI s) wx ∧ RowAt .u64 124 W0.heap.size 3 (nI X) wx ∧ Below w.heap.size w wx) (fun v _ => rowLen8 v)
  case atStart => exact ⟨0, z3, by rw [Nat.mul_zero, List.drop_zero]; exact HB.out, Nat.zero_le _, z3_nm, (by show _ = _; rw [z3_wv]; rfl), (by show _ < _; rw [z3_wv]; decide), r5, r6, r7, hbw⟩
  case round =>
    obtain ⟨j, X, hRb, HJ, HX, HV, HBd, r5', r6', r7', hbx⟩ := hrel
    clear r5 r6 r7 hbw
    obtain ⟨ab, cb, rfl, hcb, hmb, hnone, -⟩ := id hRb
    obtain ⟨L, hL⟩ : ∃ L : Nat, L = (b.drop (16 * j)).length := ⟨_, rfl⟩
    rw [← hL] at hcb hRb ⊢
    have HL : Hid _ := hL
    have hmb2 := hmb
    unfold maxLen at hmb2
    by_cases hlt : 0 < L
    · have hd : decide ((0 : Int) < (L : Int)) = true := decide_eq_true (by omega)
      have hLI : (0 : Int) < (L : Int) := by omega
      obtain ⟨m, hm⟩ : ∃ m : Nat, m = min L 16 := ⟨_, rfl⟩
      have hmin : (if (16 : Int) < (L : Int) then (16 : Int) else (L : Int)) = (m : Int) := by split <;> omega
      obtain ⟨hd1, hd2⟩ := drop_more b j m L hL hm
      obtain ⟨ab', htail, hrest⟩ := exec_tail (ab := ab) (m := m) (show m ≤ L by omega) hcb hmb hnone
      have hhead := hRb.take (n := m) (by omega)
      rw [hd2] at hhead
      have HHead : Hid (Rd w (.slice ab m cb) ((b.drop (16 * j)).take 16)) := hhead
      have HExH : Hid (m ≤ L ∧ L ≤ cb ∧ cb ≤ maxLen ∧ (ab = none → cb = 0)) := ⟨by omega, hcb, hmb, hnone⟩
      have HRest : Hid (Rd w (.slice ab' (L - m) (cb - m)) (b.drop (16 * (j + 1)))) := by
        rw [← hd1]
        exact hrest _ _ hRb
      have HBk : Hid (leN ((b.drop (16 * j)).take 16) + 256 ^ ((b.drop (16 * j)).take 16).length = blkN b j) := by show _ = _; rfl
      have HBl : Hid (((b.drop (16 * j)).take 16).length ≤ 16) := by show _ ≤ _; rw [List.length_take]; exact Nat.min_le_left _ _
      have HAc : Hid _ := acc_bound (wv X) (blkN b j) (wv r) HBd.out (blkN_lt b j) HR2.out
      have HJ2 : Hid (j + 1 ≤ nblk b.length) := by
        rw [List.length_drop] at hL
        show _ ≤ _
        unfold nblk
        omega
      have HMs : Hid (L - m < L) := by show _ < _; omega
      have HT2 : Hid _ := @htail
      clear hRb hL hd1 hd2 hm hrest hhead htail hcb hmb hnone
      go_wp2_with fail
      refine wpE_begin 8 (by kernel_rfl) ?_
      refine eU_ 0 rfl ⟨_, by intro W hW; refine Eq.trans (exec_load_row 124 _ (by rfl) (by rfl) r7' hW _ Tryd.underlying124 rfl (nmInfo HX.out)) ?_; with_reducible rfl, ?_⟩
      try simp only [Act.put, pA_, pB_, pC_]
      refine eU_ 1 rfl ⟨_, by intro W hW; go_simp <;> with_reducible rfl, ?_⟩
      try simp only [Act.put, pA_, pB_, pC_]
      refine eU_ 2 rfl ⟨_, by intro W hW; go_simp <;> with_reducible rfl, ?_⟩
      try simp only [Act.put, pA_, pB_, pC_]
      refine eU_ 3 rfl ⟨_, by intro W hW; refine Eq.trans (exec_head _ _ (by rfl) (by rfl) (by rfl) HExH.out.1 HExH.out.2.1 HExH.out.2.2.1 HExH.out.2.2.2) ?_; with_reducible rfl, ?_⟩
      try simp only [Act.put, pA_, pB_, pC_]
      refine eU_ 6 rfl ⟨_, by intro W hW; refine Eq.trans (exec_load_row 124 _ (by rfl) (by rfl) r5' hW _ Tryd.underlying124 rfl (nmInfo HR.out)) ?_; with_reducible rfl, ?_⟩
      try simp only [Act.put, pA_, pB_, pC_]
      refine eD_ 4 fun K hK => ?_
      go_simp
      refine (pieceOf_any _ _ _ (HHead.out.kept hbx).drew HBl.out).mono ?_
      rintro e wp ⟨xp, rfl, hxp, hvp, bp⟩
      rw [HBk.out] at hvp
      refine hK.out _ _ bp ?_
      clear hK K
      try simp only [Act.put, pA_, pB_, pC_]
      refine eD_ 5 fun K hK => ?_
      go_simp
      refine (plus_any _ _ X xp HX.out hxp (by rw [hvp]; have := HAc.out.1; omega) rfl rfl _).mono ?_
      rintro e wq ⟨xq, rfl, hxq, hvq, bq⟩
      rw [hvp] at hvq
      refine hK.out _ _ bq ?_
      clear hK K
      try simp only [Act.put, pA_, pB_, pC_]
      refine eD_ 7 fun K hK => ?_
      go_simp
      refine (ptimes_any _ _ xq r hxq HR.out (by have := HR2.out; omega) (by rw [hvq]; exact HAc.out.2) rfl rfl _).mono ?_
      rintro e wm ⟨xm, rfl, hxm, hvm, bm⟩
      rw [hvq] at hvm
      refine hK.out _ _ bm ?_
      clear hK K
      try simp only [Act.put, pA_, pB_, pC_]
      refine eL_ fun K hK => ?_
      refine wp_store_row 124 _ _ rfl (nI xm) rfl rfl (((r7'.drew.kept bp).kept bq).kept bm) (by rw [HX.out.len, hxm.len]) (nmInfo HX.out) ?_
      intro wS rS hwS
      refine hK.out _ _ ?_
      clear hK K
      try simp only [Act.put, pA_, pB_, pC_]
      have bS : Below wr.heap.size wr wm := stepB (stepB (stepB (Below.refl _ _).drew bp) bq) bm
      have hbn := hwS.below _ _ (by omega) (stepB hbx bS)
      replace r5' := (r5'.kept bS).wrote hwS (by omega)
      replace r6' := (r6'.kept bS).wrote hwS (by omega)
      have HVn : Hid (wv xm % p8 = accN (leN (clP k)) b (j + 1)) := by
        show _ = _
        rw [hvm, HVr.out]
        exact acc_step _ b j _ HV.out
      have HBn : Hid (wv xm < 1701411834604692317316873037158841057280) := by
        show _ < _
        rw [hvm]
        exact fold8_bound _ HAc.out.2
      have HXn : Hid (Nm3 xm) := hxm
      clear hvm hxm hvq hxq hvp hxp bp bq bm bS hwS r7' hbx HHead HBk HBl HAc HV HBd HX
      go_wp2_with (refine wpList_val rfl (HT2.out _ _ rfl rfl rfl) ?_)
      go_roundw
      case rel => exact ⟨j + 1, xm, HRest.out, HJ2, HXn, HVn, HBn, r5', r6', rS, hbn⟩
      case measure => exact HMs.out
    · have hd : decide ((0 : Int) < (L : Int)) = false := decide_eq_false (by omega)
      have hLI : (L : Int) ≤ 0 := by omega
      have hjn : j = nblk b.length := by
        have h1 := HJ.out
        rw [List.length_drop] at hL
        unfold nblk at h1 ⊢
        omega
      have HAcc : Hid (wv X % p8 = accN (leN (clP k)) b (nblk b.length)) := by rw [← hjn]; exact HV.out
      clear hjn hL HL HV HJ hRb hcb hmb hnone
      go_wp2_with fail
      refine wpE_begin 4 (by kernel_rfl) ?_
      refine eU_ 0 rfl ⟨_, by intro W hW; refine Eq.trans (exec_load_row 124 _ (by rfl) (by rfl) r7' hW _ Tryd.underlying124 rfl (nmInfo HX.out)) ?_; with_reducible rfl, ?_⟩
      try simp only [Act.put, pA_, pB_, pC_]
      refine eU_ 2 rfl ⟨_, by intro W hW; refine Eq.trans (exec_load_row 124 _ (by rfl) (by rfl) r6' hW _ Tryd.underlying124 rfl (nmInfo HSn.out)) ?_; with_reducible rfl, ?_⟩
      try simp only [Act.put, pA_, pB_, pC_]
      refine eD_ 1 fun K hK => ?_
      go_simp
      refine (prest_any _ X HX.out HBd.out rfl _).mono ?_
      rintro e wp ⟨xp, rfl, hxp, hvp, bp⟩
      rw [HAcc.out] at hvp
      refine hK.out _ _ bp ?_
      clear hK K
      try simp only [Act.put, pA_, pB_, pC_]
      refine eD_ 3 fun K hK => ?_
      go_simp
      refine (plus_any _ _ xp s hxp HSn.out (by rw [hvp, HVs.out]; exact mac_sum_lt k b HK32.out) rfl rfl _).mono ?_
      rintro e wq ⟨xq, rfl, hxq, hvq, bq⟩
      rw [hvp, HVs.out] at hvq
      refine hK.out _ _ bq ?_
      clear hK K
      try simp only [Act.put, pA_, pB_, pC_]
      refine eL_ fun K hK => ?_
      refine wp_store_row 124 _ _ rfl (nI xq) rfl rfl ((r7'.drew.kept bp).kept bq) (by rw [HX.out.len, hxq.len]) (nmInfo HX.out) ?_
      intro wS rS hwS
      refine hK.out _ _ ?_
      clear hK K
      try simp only [Act.put, pA_, pB_, pC_]
      have bS : Below wr.heap.size wr wq := stepB (stepB (Below.refl _ _).drew bp) bq
      have hbn := hwS.below _ _ (by omega) (stepB hbx bS)
      have k0 := rS.cell (j := 0) (by rw [hxq.len]; decide)
      have k1 := rS.cell (j := 1) (by rw [hxq.len]; decide)
      rw [nI_get] at k0 k1
      have HFin : Hid ((List.range 8).map (stB (xq.getD 0 0)) ++ (List.range 8).map (stB (xq.getD 1 0)) = mcP k b) := by
        show _ = _
        rw [bytes_wv hxq, hvq]
        exact (mcP_eq k b HK32.out).symm
      generalize xq.getD 0 0 = p0 at k0 HFin
      generalize xq.getD 1 0 = p1 at k1 HFin
      obtain ⟨la, hla⟩ : ∃ l : List UInt8, l = (List.range 8).map (stB p0) := ⟨_, rfl⟩
      obtain ⟨lb, hlb⟩ : ∃ l : List UInt8, l = (List.range 8).map (stB p1) := ⟨_, rfl⟩
      have HLen : Hid (la.length = 8 ∧ lb.length = 8) := ⟨by rw [hla]; simp, by rw [hlb]; simp⟩
      rw [← hla, ← hlb] at HFin
      have HLA : Hid _ := hla
      have HLB : Hid _ := hlb
      clear hla hlb
      clear hvq hxq hvp hxp bp bq bS hwS r5' r6' r7' hbx HBd HX HAcc rS
      go_wp2_with fail
      refine wpG_begin (by kernel_rfl) ?_
      refine gU_ 0 rfl ⟨_, by intro W hW; go_simp <;> with_reducible rfl, ?_⟩
      try simp only [Act.put, pA_, pB_, pC_]
      refine gU_ 1 rfl ⟨_, by intro W hW; have hcW := cellU k0 hW; go_simp <;> with_reducible rfl, ?_⟩
      try simp only [Act.put, pA_, pB_, pC_]
      refine gU_ 3 rfl ⟨_, by intro W hW; go_simp <;> with_reducible rfl, ?_⟩
      try simp only [Act.put, pA_, pB_, pC_]
      refine gU_ 4 rfl ⟨_, by intro W hW; have hcW := cellK k1 (stepB (Below.refl _ _).drew hW); go_simp <;> with_reducible rfl, ?_⟩
      try simp only [Act.put, pA_, pB_, pC_]
      refine gD_ 2 fun K hK => ?_
      go_simp
      refine (store_k p0 8 8 (by omega) (.inr (.inl ⟨by omega, by omega, rfl⟩)) _).mono ?_
      rintro e wa ⟨va, rfl, hNa⟩
      rw [← HLA.out] at hNa
      refine hK.out _ _ hNa.2 ?_
      clear hK K
      try simp only [Act.put, pA_, pB_, pC_]
      refine gD_ 5 fun K hK => ?_
      go_simp
      refine (store_k p1 8 8 (by omega) (.inr (.inl ⟨by omega, by omega, rfl⟩)) _).mono ?_
      rintro e wb ⟨vb2, rfl, hNb⟩
      rw [← HLB.out] at hNb
      refine hK.out _ _ hNb.2 ?_
      clear hK K
      have hRa := hNa.rd.kept hNb.2
      have hRb := hNb.rd
      obtain ⟨a1, c1, rfl, -, -, -, -⟩ := id hRa
      obtain ⟨a2, c2, rfl, -, -, -, -⟩ := id hRb
      have hL2 := RdL.pair8 (e := 40) rfl hRa hRb
      have g2 := growB (w := wb) (.cells #[.slice a1 la.length c1, .slice a2 lb.length c2] 40)
      try simp only [Act.put, pA_, pB_, pC_]
      refine gD_ 6 fun K hK => ?_
      go_simp
      refine hK.out _ _ g2 ?_
      clear hK K
      try simp only [Act.put, pA_, pB_, pC_]
      refine gD_ 7 fun K hK => ?_
      go_simp
      refine (join_any _ _ _ _ hL2 (by have := HLen.out; simp [totL]; omega)).mono ?_
      rintro e wj ⟨vj, rfl, hNj⟩
      refine hK.out _ _ hNj.2 ?_
      clear hK K
      try simp only [Act.put, pA_, pB_, pC_]
      refine gU_ 8 rfl ⟨_, by intro W hW; go_simp <;> with_reducible rfl, ?_⟩
      try simp only [Act.put, pA_, pB_, pC_]
      refine wpG_done (by kernel_rfl) ?_
      go_wp2
      go_ret
      refine ⟨_, rfl, ?_⟩
      have hNj2 := hNj.pair8
      rw [HFin.out] at hNj2
      exact hNj2.from (stepB (stepB (stepB hbn.drew hNa.2) hNb.2) g2)
end Go.Proofs.YtliiofjcghdjoaaDoor
