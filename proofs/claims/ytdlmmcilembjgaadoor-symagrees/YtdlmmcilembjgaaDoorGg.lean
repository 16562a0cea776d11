/- What functions of the program, or of the reference, answer: contracts; several texts in one. -/
import Derived.Test.YtdlmmcilembjgaaDoorGf
import Derived.Test.YtdlmmcilembjgaaDoorGb
import Derived.Deep.DeepCutAuto

namespace Go.Proofs.YtdlmmcilembjgaaDoor
open Go.ChangeShapes Go.WideShapes Go.ChangeAt Go.RowKit
set_option linter.unusedSimpArgs false
set_option linter.unusedVariables false

theorem cell16t {w W : World} {p : Addr} {v : Value} (h : w.cell? p = some v) (hb : Below w.heap.size w W) : W.cell? p = some v := by
 rw [hb.cell (World.block_lt_of_cell? _ _ h)]
 exact h
theorem rkC_cases (c : Cph) : (c.key.length ≠ 32 ∧ (rkC c).key = c.key) ∨ (c.key.length = 32 ∧ (rkC c).key = (seL c.key (ncL 18446744073709551615) [] (List.replicate 32 0)).take 32) := by
 unfold rkC
 by_cases h : c.key.length = 32
 ·exact .inr ⟨h, by rw [if_pos h]⟩
 ·exact .inl ⟨h, by rw [if_neg h]⟩
theorem seL_32 (k n : List UInt8) : 32 ≤ (seL k n [] (List.replicate 32 0)).length := by
 unfold seL
 rw [List.length_append, smL_length, List.length_replicate]
 omega

set_option maxRecDepth 100000 in
set_option maxHeartbeats 4000000 in
theorem rekey16_any (c : Cph) (vk : Value) (A : Array Value) (hA : A = (ciC vk c.n).toArray) (hn : c.n < 18446744073709551616) (w : World) (hk : Rd w vk c.key) :
  Calls Tryd.prog 8 #[.agg A] w fun e w' => ∃ x, e = .returned (.agg (ciC x c.n).toArray) ∧ Rd w' x (rkC c).key ∧ Below w.heap.size w w' := by
 have hcase := rkC_cases c
 obtain ⟨key, n⟩ := c
 obtain ⟨ak, ck, rfl, hk2, hk3, -, -⟩ := id hk
 unfold maxLen at hk3
 have HK : Hid (Rd w (.slice ak key.length ck) key) := hk
 generalize (rkC ⟨key, n⟩).key = R at hcase ⊢
 replace hA : A = (ciC (.slice ak key.length ck) n).toArray := hA
 clear hk hn
 go_enter Tryd.func8, Tryd.ntmps8
 go_wp2_with (refine wpList_box_blk rfl 28 _ rfl (ciC (.slice ak key.length ck) n) (by rw [← hA]; rfl) ?_)
 intro w1 r1 b1 s1
 go_wp2_with (refine wpList_alloc_blk rfl 28 rfl (ciC (.slice none 0 0) 0) (alloc_ci _) ?_)
 intro w2 rz b2 s2
 replace r1 := r1.kept b2
 have hbw := stepB b1 b2
 have n1 : w.heap.size < w1.heap.size := by have := s1.out; omega
 have c0 : w2.cell? ⟨w.heap.size, 0, none⟩ = some (.slice ak key.length ck) := r1.cell 0
 have c1 : w2.cell? ⟨w.heap.size, 1, none⟩ = some (.int .u64 (n : Int)) := r1.cell 1
 have z1 := b1.size
 clear b1 b2 s1 s2 hA
 rcases hcase with ⟨h1, h3⟩ | ⟨h1, h3⟩
 ·have h1' : key.length ≠ 32 := h1
  have e2 : ((key.length : Int) != 32) = true := by simp; omega
  have HR : Hid (R = key) := h3
  clear h1 h1' h3
  go_wp2_with (first | refine wpList_load_part rfl 28 _ rfl rfl [] (ciC (.slice ak key.length ck) n) [] r1 (whole16 _) rfl Tryd.underlying28 rfl (info_ci _ _) ?_ | (refine wpList_store_part rfl 28 _ _ rfl rfl (ciC (.slice ak key.length ck) n) rfl [] (ciC (.slice none 0 0) 0) [] (ciC (.slice ak key.length ck) n) rz (whole16 _) (whole16 _) rfl rfl (info_ci (.slice none 0 0) 0) (ciC_all _ _ _ _) ?_; intro w7 r7 hw7))
  refine bodyPost_blk rfl rfl rfl r7 Tryd.underlying28 rfl (info_ci _ _) ?_
  exact ⟨_, rfl, by rw [HR.out]; exact Rd.kept HK.out (hw7.below _ _ z1 hbw), hw7.below _ _ z1 hbw⟩
 ·have h1' : key.length = 32 := h1
  have e2 : ((key.length : Int) != 32) = false := by simp; omega
  have HK32 : Hid (key.length = 32) := h1'
  have HR : Hid (R = (seL key (ncL 18446744073709551615) [] (List.replicate 32 0)).take 32) := h3
  clear h1 h1' h3
  go_upto_region 3 with fail
  go_cut [3] (fun v wx => ∃ (a : Option Addr) (L c : Nat), v = .slice a L c ∧ Hid (New 5 w2 (.slice a L c) (seL key (ncL 18446744073709551615) [] (List.replicate 32 0)) wx))
  case first =>
   have hB : Below w2.heap.size w2 w2.drew := (Below.refl _ _).drew
   refine wpB_begin (Below.refl w2.heap.size w2) (by kernel_rfl) ?_
   refine wpB_t (hb := hB) (i := 0) (oi := ⟨some 11, .fieldAddr 28 (.tmp 1) 0, 0, "ref.go:58", #[], none⟩) (v := ?_) ?_ ?_
   rotate_left
   ·intro W hW; go_simp <;> with_reducible rfl
   try simp only [Act.put, putA, putB, putC]
   refine wpB_t (hb := hB) (i := 1) (oi := ⟨some 12, .load 22 (.tmp 11), 22, "ref.go:58", #[⟨0, .data⟩], none⟩) (v := ?_) ?_ ?_
   rotate_left
   ·intro W hW; have hcW := cell16t c0 hW; go_simp <;> with_reducible rfl
   try simp only [Act.put, putA, putB, putC]
   refine wpB_fork (i := 2) (j := 3) (oi := ⟨some 13, .call { callee := .value (.func 24), args := #[.const (.int .u64 18446744073709551615)], argTypes := #[23] }, 22, "ref.go:58", #[], none⟩) (oj := ⟨some 14, .makeSlice 22 (.const (.int .i64 32)) (.const (.int .i64 32)), 22, "ref.go:58", #[], none⟩) (by kernel_rfl) rfl rfl (by rfl) (by rfl) (fun K hK => ?_) (fun K hK => ?_)
   ·go_simp
    refine (nonce16_any 18446744073709551615 (by decide) _).mono ?_
    rintro e ws ⟨vs, rfl, hNs⟩
    have hS : Rd ws vs (ncL 18446744073709551615) := hNs.rd
    replace hB := stepB hB hNs.2
    try replace hM := Rd.kept hM hNs.2
    refine hK.out _ _ hB ?_
    clear hK K
    try simp only [Act.put, putA, putB, putC]
    refine wpB_do (i := 3) (o := ⟨some 14, .makeSlice 22 (.const (.int .i64 32)) (.const (.int .i64 32)), 22, "ref.go:58", #[], none⟩) (by kernel_rfl) rfl (by rfl) fun K hK => ?_
    refine wp_make_new _ _ 22 rfl Tryd.underlying22 infoU8 32 rfl rfl (by decide) ?_
    intro wm hNm
    have hM := hNm.rd
    replace hB := stepB hB hNm.2
    try replace hS := Rd.kept hS hNm.2
    refine hK.out _ _ hB ?_
    clear hK K
    try simp only [Act.put, putA, putB, putC]
    refine wpB_do (i := 4) (o := ⟨some 15, .call { callee := .value (.func 23), args := #[.tmp 12, .tmp 13, .const (.slice none 0 0), .tmp 14], argTypes := #[22, 22, 22, 22] }, 31, "ref.go:58", #[⟨1, .data⟩, ⟨2, .data⟩, ⟨3, .data⟩, ⟨2, .chain⟩], none⟩) (by kernel_rfl) rfl (by rfl) fun K hK => ?_
    go_simp
    refine (sealR_any _ _ _ _ key (ncL 18446744073709551615) [] (List.replicate 32 0) HK32.out (ncL_length _) (by decide) (by decide) _ (Rd.kept HK.out (stepB hbw hB)) hS (Rd.nil _) hM).mono ?_
    rintro e wj ⟨vj, rfl, hNj⟩
    have hJ := hNj.rd
    obtain ⟨aj, cj, rfl, -⟩ := id hJ
    have HJ : Hid (New 5 w2 _ _ wj) := hNj.from hB
    replace hB := stepB hB hNj.2
    clear hJ hNj
    refine hK.out _ _ hB ?_
    clear hK K
    try simp only [Act.put, putA, putB, putC]
    refine wpB_t (hb := hB) (i := 5) (oi := ⟨some 10, .move (.tmp 15), 31, "ref.go:58", #[⟨4, .data⟩], none⟩) (v := ?_) ?_ ?_
    rotate_left
    ·intro W hW; go_simp <;> with_reducible rfl
    try simp only [Act.put, putA, putB, putC]
    refine wpB_t (hb := hB) (i := 6) (oi := ⟨some 16, .extract (.tmp 10) 0, 22, "ref.go:58", #[⟨5, .data⟩], none⟩) (v := ?_) ?_ ?_
    rotate_left
    ·intro W hW; go_simp <;> with_reducible rfl
    try simp only [Act.put, putA, putB, putC]
    refine wpB_t (hb := hB) (i := 7) (oi := ⟨some 17, .extract (.tmp 10) 1, 30, "ref.go:58", #[⟨5, .data⟩, ⟨8, .gcOnly .lateStores⟩], none⟩) (v := ?_) ?_ ?_
    rotate_left
    ·intro W hW; go_simp <;> with_reducible rfl
    try simp only [Act.put, putA, putB, putC]
    refine wpB_t (hb := hB) (i := 8) (oi := ⟨some 3, .assign (.tmp 16), 22, "ref.go:58", #[⟨6, .data⟩, ⟨4, .chain⟩, ⟨0, .phase⟩, ⟨1, .phase⟩, ⟨2, .phase⟩, ⟨3, .phase⟩, ⟨4, .phase⟩, ⟨5, .phase⟩, ⟨6, .phase⟩, ⟨7, .textOnly .lateStores⟩], none⟩) (v := ?_) ?_ ?_
    rotate_left
    ·intro W hW; go_simp <;> with_reducible rfl
    try simp only [Act.put, putA, putB, putC]
    refine wpB_t (hb := hB) (i := 9) (oi := ⟨some 4, .assign (.tmp 17), 30, "ref.go:58", #[⟨7, .data⟩, ⟨8, .chain⟩, ⟨0, .phase⟩, ⟨1, .phase⟩, ⟨2, .phase⟩, ⟨3, .phase⟩, ⟨4, .phase⟩, ⟨5, .phase⟩, ⟨6, .phase⟩, ⟨7, .phase⟩, ⟨8, .phase⟩], none⟩) (v := ?_) ?_ ?_
    rotate_left
    ·intro W hW; go_simp <;> with_reducible rfl
    try simp only [Act.put, putA, putB, putC]
    refine wpB_done (by kernel_rfl) ?_
    go_wp2_with fail
    go_meet
    exact ⟨_, _, _, rfl, HJ.out⟩
   ·refine wp_make_new _ _ 22 rfl Tryd.underlying22 infoU8 32 rfl rfl (by decide) ?_
    intro wm hNm
    have hM := hNm.rd
    replace hB := stepB hB hNm.2
    try replace hS := Rd.kept hS hNm.2
    refine hK.out _ _ hB ?_
    clear hK K
    try simp only [Act.put, putA, putB, putC]
    refine wpB_do (i := 2) (o := ⟨some 13, .call { callee := .value (.func 24), args := #[.const (.int .u64 18446744073709551615)], argTypes := #[23] }, 22, "ref.go:58", #[], none⟩) (by kernel_rfl) rfl (by rfl) fun K hK => ?_
    go_simp
    refine (nonce16_any 18446744073709551615 (by decide) _).mono ?_
    rintro e ws ⟨vs, rfl, hNs⟩
    have hS : Rd ws vs (ncL 18446744073709551615) := hNs.rd
    replace hB := stepB hB hNs.2
    try replace hM := Rd.kept hM hNs.2
    refine hK.out _ _ hB ?_
    clear hK K
    try simp only [Act.put, putA, putB, putC]
    refine wpB_do (i := 4) (o := ⟨some 15, .call { callee := .value (.func 23), args := #[.tmp 12, .tmp 13, .const (.slice none 0 0), .tmp 14], argTypes := #[22, 22, 22, 22] }, 31, "ref.go:58", #[⟨1, .data⟩, ⟨2, .data⟩, ⟨3, .data⟩, ⟨2, .chain⟩], none⟩) (by kernel_rfl) rfl (by rfl) fun K hK => ?_
    go_simp
    refine (sealR_any _ _ _ _ key (ncL 18446744073709551615) [] (List.replicate 32 0) HK32.out (ncL_length _) (by decide) (by decide) _ (Rd.kept HK.out (stepB hbw hB)) hS (Rd.nil _) hM).mono ?_
    rintro e wj ⟨vj, rfl, hNj⟩
    have hJ := hNj.rd
    obtain ⟨aj, cj, rfl, -⟩ := id hJ
    have HJ : Hid (New 5 w2 _ _ wj) := hNj.from hB
    replace hB := stepB hB hNj.2
    clear hJ hNj
    refine hK.out _ _ hB ?_
    clear hK K
    try simp only [Act.put, putA, putB, putC]
    refine wpB_t (hb := hB) (i := 5) (oi := ⟨some 10, .move (.tmp 15), 31, "ref.go:58", #[⟨4, .data⟩], none⟩) (v := ?_) ?_ ?_
    rotate_left
    ·intro W hW; go_simp <;> with_reducible rfl
    try simp only [Act.put, putA, putB, putC]
    refine wpB_t (hb := hB) (i := 6) (oi := ⟨some 16, .extract (.tmp 10) 0, 22, "ref.go:58", #[⟨5, .data⟩], none⟩) (v := ?_) ?_ ?_
    rotate_left
    ·intro W hW; go_simp <;> with_reducible rfl
    try simp only [Act.put, putA, putB, putC]
    refine wpB_t (hb := hB) (i := 7) (oi := ⟨some 17, .extract (.tmp 10) 1, 30, "ref.go:58", #[⟨5, .data⟩, ⟨8, .gcOnly .lateStores⟩], none⟩) (v := ?_) ?_ ?_
    rotate_left
    ·intro W hW; go_simp <;> with_reducible rfl
    try simp only [Act.put, putA, putB, putC]
    refine wpB_t (hb := hB) (i := 8) (oi := ⟨some 3, .assign (.tmp 16), 22, "ref.go:58", #[⟨6, .data⟩, ⟨4, .chain⟩, ⟨0, .phase⟩, ⟨1, .phase⟩, ⟨2, .phase⟩, ⟨3, .phase⟩, ⟨4, .phase⟩, ⟨5, .phase⟩, ⟨6, .phase⟩, ⟨7, .textOnly .lateStores⟩], none⟩) (v := ?_) ?_ ?_
    rotate_left
    ·intro W hW; go_simp <;> with_reducible rfl
    try simp only [Act.put, putA, putB, putC]
    refine wpB_t (hb := hB) (i := 9) (oi := ⟨some 4, .assign (.tmp 17), 30, "ref.go:58", #[⟨7, .data⟩, ⟨8, .chain⟩, ⟨0, .phase⟩, ⟨1, .phase⟩, ⟨2, .phase⟩, ⟨3, .phase⟩, ⟨4, .phase⟩, ⟨5, .phase⟩, ⟨6, .phase⟩, ⟨7, .phase⟩, ⟨8, .phase⟩], none⟩) (v := ?_) ?_ ?_
    rotate_left
    ·intro W hW; go_simp <;> with_reducible rfl
    try simp only [Act.put, putA, putB, putC]
    refine wpB_done (by kernel_rfl) ?_
    go_wp2_with fail
    go_meet
    exact ⟨_, _, _, rfl, HJ.out⟩
  case rest =>
  obtain ⟨a4, L4, c4, rfl, HJ⟩ := hcut
  rename World => w4
  have HB : Hid _ := HJ.out.2
  have h5 := HJ.out.rd
  obtain ⟨a5, c5, e5, h6, h7, h8, -⟩ := h5
  simp only [Value.slice.injEq] at e5
  obtain ⟨rfl, rfl, rfl⟩ := e5
  have HExH : Hid (32 ≤ (seL key (ncL 18446744073709551615) [] (List.replicate 32 0)).length ∧ (seL key (ncL 18446744073709551615) [] (List.replicate 32 0)).length ≤ c4 ∧ c4 ≤ maxLen ∧ (a4 = none → c4 = 0)) := ⟨seL_32 _ _, h6, h7, h8⟩
  have HX : Hid (w4.ownsRow w2.heap.size 5 1 (.slice a4 (seL key (ncL 18446744073709551615) [] (List.replicate 32 0)).length c4) _ _) := HJ.out.1
  have HZ2 : Hid (w1.heap.size < w2.heap.size) := rz.lt
  obtain ⟨O, hO⟩ : ∃ O, O = seL key (ncL 18446744073709551615) [] (List.replicate 32 0) := ⟨_, rfl⟩
  rw [← hO] at HX HExH HR ⊢
  obtain ⟨L, hL⟩ : ∃ L, L = O.length := ⟨_, rfl⟩
  rw [← hL] at HX HExH ⊢
  have HL : Hid (L = O.length) := hL
  clear h6 h7 h8 HJ hO hL
  have c1' : w4.cell? ⟨w.heap.size, 1, none⟩ = some (.int .u64 (n : Int)) := cell16t c1 HB.out
  have rz4 := rz.kept HB.out
  have HB4 : Hid _ := stepB hbw HB.out
  clear c0 c1 r1
  go_wp2_with fail
  refine wpE_begin 5 (by kernel_rfl) ?_
  refine wpE_t (i := 0) (oi := ⟨some 18, .move (.tmp 3), 22, "ref.go:59", #[], none⟩) (v := ?_) ?_ ?_
  rotate_left
  ·intro W hW; go_simp <;> with_reducible rfl
  try simp only [Act.put, putA, putB, putC]
  refine wpE_t (i := 1) (oi := ⟨some 19, .slice 22 (.tmp 18) none (some (.const (.int .i64 32))) none, 22, "ref.go:59", #[⟨0, .data⟩], none⟩) (v := ?_) ?_ ?_
  rotate_left
  ·intro W hW; refine Eq.trans (exec_head _ _ (by rfl) (by rfl) (by rfl) HExH.out.1 HExH.out.2.1 HExH.out.2.2.1 HExH.out.2.2.2) ?_; with_reducible rfl
  try simp only [Act.put, putA, putB, putC]
  refine wpE_t (i := 2) (oi := ⟨some 20, .fieldAddr 28 (.tmp 1) 1, 0, "ref.go:59", #[], none⟩) (v := ?_) ?_ ?_
  rotate_left
  ·intro W hW; go_simp <;> with_reducible rfl
  try simp only [Act.put, putA, putB, putC]
  refine wpE_t (i := 3) (oi := ⟨some 21, .load 23 (.tmp 20), 23, "ref.go:59", #[⟨2, .data⟩], none⟩) (v := ?_) ?_ ?_
  rotate_left
  ·intro W hW; have hcW := cell16 c1' hW; go_simp <;> with_reducible rfl
  try simp only [Act.put, putA, putB, putC]
  refine wpE_t (i := 4) (oi := ⟨some 22, .build 28 #[(0, .tmp 19), (1, .tmp 21)], 28, "ref.go:59", #[⟨1, .data⟩, ⟨3, .data⟩], none⟩) (v := ?_) ?_ ?_
  rotate_left
  ·intro W hW; refine Eq.trans (exec_build 28 #[(0, .tmp 19), (1, .tmp 21)] (by rfl) #[(0, .slice a4 32 c4), (1, .int .u64 (n : Int))] (by go_simp) (.agg #[.slice a4 32 c4, .int .u64 (n : Int)]) (build_ci _ _ _ _ _)) ?_; with_reducible rfl
  try simp only [Act.put, putA, putB, putC]
  refine wpE_last (o := ⟨none, .store 28 (.tmp 2) (.tmp 22), 0, "ref.go:59", #[⟨4, .data⟩, ⟨0, .phase⟩, ⟨1, .phase⟩, ⟨2, .phase⟩, ⟨3, .phase⟩, ⟨4, .phase⟩], none⟩) (by kernel_rfl) (by kernel_rfl) rfl (by rfl) fun K hK => ?_
  refine wp_store_part 28 _ _ rfl rfl (ciC (.slice a4 32 c4) n) rfl [] (ciC (.slice none 0 0) 0) [] (ciC (.slice a4 32 c4) n) rz4.drew (whole16 _) (whole16 _) rfl rfl (info_ci (.slice none 0 0) 0) (ciC_all _ _ _ _) ?_
  intro w7 r7 hw7
  refine hK.out _ _ ?_
  clear hK K
  try simp only [Act.put, putA, putB, putC]
  go_wp2_with fail
  refine bodyPost_blk rfl rfl rfl r7 Tryd.underlying28 rfl (info_ci _ _) ?_
  have bS := hw7.below _ _ z1 HB4.out.drew
  refine ⟨_, rfl, ?_, bS⟩
  have hX4 := HX.out.drew
  have hlt := fun g e1 => (HX.out.lt g e1).1
  have h32 := HExH.out.1
  have hL := HL.out
  subst hL
  have hX7 := Rd.of_row (own_chg hX4 (Chg.of_wrote hw7) (fun g e1 e2 => by have := hlt g e1; have := HZ2.out; omega))
  have hT := Rd.take hX7 (n := 32) h32
  rw [← HR.out] at hT
  exact hT
end Go.Proofs.YtdlmmcilembjgaaDoor
