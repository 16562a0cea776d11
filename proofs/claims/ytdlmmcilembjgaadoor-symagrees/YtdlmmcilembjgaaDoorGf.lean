/- What functions of the program, or of the reference, answer: contracts; several texts in one. -/
import Derived.Test.YtdlmmcilembjgaaDoorGe
import Derived.OwnWalk
import Derived.Test.YtdlmmcilembjgaaDoorGb
import Derived.Test.YtdlmmcilembjgaaDoorGd
import Derived.Test.YtdlmmcilembjgaaDoorBase
import Derived.Lib.AppendStr
import Derived.Lib.ConvBytes
import Derived.Laws.AppendOwn
import Derived.Lib.BufferWrite
import Derived.Laws.CopyOwn
import Derived.Shelf.Abstract
import Derived.Deep.DeepCutAuto
import Derived.Lib.SlBytesConst
import Derived.Test.YtdlmmcilembjgaaDoorGa
import Derived.Test.YtdlmmcilembjgaaDoorChecked
import Derived.WalkKit
import Derived.Deep.Slices
import Derived.Deep.Strs
import Derived.OpenShut
import Derived.ChangeSlices
import Derived.ChangeSame

namespace Go.Proofs.YtdlmmcilembjgaaDoor
open Go.ChangeShapes Go.WideShapes Go.ChangeAt Go.RowKit
set_option linter.unusedSimpArgs false
set_option linter.unusedVariables false

theorem RdL.lit2b {w : World} {e : TypeId} {v1 v2 : Value} {l1 l2 : List UInt8} {b : Nat} (hb : b = w.heap.size) (h1 : Rd w v1 l1) (h2 : Rd w v2 l2) : RdL (w.alloc (.cells #[v1, v2] e)) (.slice (some ⟨b, 0, none⟩) 2 2) [v1, v2] [l1, l2] := by
 subst hb
 exact RdL.lit2 h1 h2

set_option maxRecDepth 100000 in
set_option maxHeartbeats 1000000 in
theorem hnext_any (vt vp : Value) (t p : List UInt8) (c : UInt8) (C : Int) (hC : C = (c.toNat : Int)) (hp : p.length ≤ 1000) (w : World) (hrt : Rd w vt t) (hrp : Rd w vp p) (ht : Tabs w) :
  Calls Tryd.prog 40 #[vt, vp, .int .u8 C] w fun e w' => ∃ v, e = .returned v ∧ New 5 w v (mcF t (p ++ [c])) w' := by
 obtain ⟨ap, cp, rfl, -, -, -, -⟩ := id hrp
 have g1 := growB (w := w) (.cells #[.int .u8 C] 5)
 have hc : Rd (w.alloc (.cells #[.int .u8 C] 5)) (.slice (some ⟨w.heap.size, 0, none⟩) 1 1) [c] := Rd.lit1 c hC
 have hL := RdL.lit2b (e := 22) (b := w.heap.size + 1) (by simp) (hrp.kept g1) hc
 have g2 := stepB g1 (growB (w := w.alloc (.cells #[.int .u8 C] 5)) (.cells #[.slice ap p.length cp, .slice (some ⟨w.heap.size, 0, none⟩) 1 1] 22))
 have hrt2 := hrt.kept g2
 have ht2 := ht.kept g2
 have h1 : totL [p, [c]] ≤ 1000000000 := by simp [totL]; omega
 have HT : Hid _ := h1
 have HL : Hid ((p ++ [c]).length ≤ 100000) := by show _ ≤ _; simp; omega
 clear hc hrp hrt ht h1 hp hC g1
 go_enter Tryd.func40, Tryd.ntmps40
 go_wp2_with fail
 refine (join_any _ _ _ _ hL HT.out).mono ?_
 rintro e w3 ⟨v3, rfl, hN3⟩
 have hR3 := hN3.two.rd
 have b3 := stepB g2 hN3.2
 have hrt3 := hrt2.kept hN3.2
 have ht3 := ht2.kept hN3.2
 clear hN3 hrt2 ht2 hL g2
 go_wp2_with fail
 refine (mac_any _ _ t (p ++ [c]) HL.out _ hrt3 hR3 ht3).mono ?_
 rintro e w4 ⟨v4, rfl, hN4⟩
 go_wp2
 go_ret
 exact ⟨_, rfl, hN4.from b3⟩

set_option maxRecDepth 100000 in
set_option maxHeartbeats 1000000 in
theorem two_own (vk vb : Value) (k b : List UInt8) (hbl : b.length ≤ 100000) (w : World) (hrk : Rd w vk k) (hrb : Rd w vb b) (ht : Tabs w) :
  Calls Tryd.prog 28 #[vk, vb] w fun e w' => ∃ v1 v2, e = .returned (.tuple #[v1, v2]) ∧ Ow 5 w.heap.size v1 (k1F k b) w' ∧ Ow 5 w.heap.size v2 (k2F k b) w' ∧ Below w.heap.size w w' := by
 have h1 : (k1F k b).length = 32 := mcF_length _ _
 go_enter Tryd.func28, Tryd.ntmps28
 go_wp2_with fail
 refine (mac_any _ _ k b hbl _ hrk hrb ht).mono ?_
 rintro e w1 ⟨vt, rfl, hN1⟩
 have hT1 := hN1.rd
 have ht1 := ht.kept hN1.2
 have b1 := hN1.2
 clear hN1 hrk hrb ht
 go_wp2_with fail
 refine (hnext_any _ _ (mcF k b) [] 1 1 rfl (by simp) _ hT1 (Rd.nil _) ht1).mono ?_
 rintro e w2 ⟨va, rfl, hN2⟩
 have hA2 : Rd w2 va (k1F k b) := hN2.rd
 have oA2 : Ow 5 w.heap.size va (k1F k b) w2 := Ow.mono (Ow.of_new hN2) b1.size
 have hT2 := hT1.kept hN2.2
 have ht2 := ht1.kept hN2.2
 have b2 := stepB b1 hN2.2
 clear hN2 hT1 ht1 b1
 go_wp2_with fail
 refine (hnext_any _ _ (mcF k b) (k1F k b) 2 2 rfl (by omega) _ hT2 hA2 ht2).mono ?_
 rintro e w3 ⟨vc, rfl, hN3⟩
 have hC3 : Rd w3 vc (k2F k b) := hN3.rd
 have oC3 : Ow 5 w.heap.size vc (k2F k b) w3 := Ow.mono (Ow.of_new hN3) b2.size
 have oA3 := oA2.kept hN3.2
 have hA3 := hA2.kept hN3.2
 have b3 := stepB b2 hN3.2
 go_wp2
 go_ret2
 exact ⟨_, _, rfl, oA3, oC3, b3⟩

set_option maxRecDepth 100000 in
set_option maxHeartbeats 1000000 in
theorem three_own (vk vb : Value) (k b : List UInt8) (hbl : b.length ≤ 100000) (w : World) (hrk : Rd w vk k) (hrb : Rd w vb b) (ht : Tabs w) :
  Calls Tryd.prog 30 #[vk, vb] w fun e w' => ∃ v1 v2 v3, e = .returned (.tuple #[v1, v2, v3]) ∧ Ow 5 w.heap.size v1 (k1F k b) w' ∧ Ow 5 w.heap.size v2 (k2F k b) w' ∧ Ow 5 w.heap.size v3 (k3F k b) w' ∧ Below w.heap.size w w' := by
 have h1 : (k1F k b).length = 32 := mcF_length _ _
 have h2 : (k2F k b).length = 32 := mcF_length _ _
 go_enter Tryd.func30, Tryd.ntmps30
 go_wp2_with fail
 refine (mac_any _ _ k b hbl _ hrk hrb ht).mono ?_
 rintro e w1 ⟨vt, rfl, hN1⟩
 have hT1 := hN1.rd
 have ht1 := ht.kept hN1.2
 have b1 := hN1.2
 clear hN1 hrk hrb ht
 go_wp2_with fail
 refine (hnext_any _ _ (mcF k b) [] 1 1 rfl (by simp) _ hT1 (Rd.nil _) ht1).mono ?_
 rintro e w2 ⟨va, rfl, hN2⟩
 have hA2 : Rd w2 va (k1F k b) := hN2.rd
 have oA2 : Ow 5 w.heap.size va (k1F k b) w2 := Ow.mono (Ow.of_new hN2) b1.size
 have hT2 := hT1.kept hN2.2
 have ht2 := ht1.kept hN2.2
 have b2 := stepB b1 hN2.2
 clear hN2 hT1 ht1 b1
 go_wp2_with fail
 refine (hnext_any _ _ (mcF k b) (k1F k b) 2 2 rfl (by omega) _ hT2 hA2 ht2).mono ?_
 rintro e w3 ⟨vc, rfl, hN3⟩
 have hC3 : Rd w3 vc (k2F k b) := hN3.rd
 have oC3 : Ow 5 w.heap.size vc (k2F k b) w3 := Ow.mono (Ow.of_new hN3) b2.size
 have oA3 := oA2.kept hN3.2
 have hA3 := hA2.kept hN3.2
 have hT3 := hT2.kept hN3.2
 have ht3 := ht2.kept hN3.2
 have b3 := stepB b2 hN3.2
 clear hN3 hA2 hT2 ht2 b2
 go_wp2_with fail
 refine (hnext_any _ _ (mcF k b) (k2F k b) 3 3 rfl (by omega) _ hT3 hC3 ht3).mono ?_
 rintro e w4 ⟨vd, rfl, hN4⟩
 have oD4 : Ow 5 w.heap.size vd (k3F k b) w4 := Ow.mono (Ow.of_new hN4) b3.size
 have oA4 := oA3.kept hN4.2
 have oC4 := oC3.kept hN4.2
 have b4 := stepB b3 hN4.2
 go_wp2
 go_ret3
 exact ⟨_, _, _, rfl, oA4, oC4, oD4, b4⟩
theorem wp_make_own {P : Program} {e : TypeId} {w : World} {o : Oper} {a : Act} {K : Act → World → Prop} {Q : Exit → Act → World → Prop} (l c : Operand) (t : TypeId) (ho : o.op = .makeSlice t l c) (hu : P.underlying t = some (.slice e))
  (hinfo : (P.info? e).map (fun i => (i.zero, i.size, i.bytes)) = some (some (.int .u8 0), 1, 1)) (n : Nat) (hl : a.eval l = .int .i64 (n : Int)) (hc : a.eval c = .int .i64 (n : Int)) (hn : n ≤ 1000000)
  (h : ∀ w', New e w (.slice (some ⟨w.heap.size, 0, none⟩) n n) (List.replicate n 0) w' → K (a.put o.dst (.slice (some ⟨w.heap.size, 0, none⟩) n n)) w') : o.wp P a w K Q := by
 obtain ⟨i, hi, hz0, hz1, hz2⟩ := info_parts hinfo
 obtain ⟨w', hrun, r1, r2⟩ := run_make_full (P := P) w w.heap.size t e i _ 1 hu hi hz0 hz1 .i64 .i64 n (by rw [hz2]; omega) (by unfold maxLen; omega) (Nat.le_refl _)
 unfold Oper.wp
 simp [execOp, ho, hl, hc, hrun, Result.andThen]
 rw [Nat.mul_one] at r1
 exact h w' (New.made r1 r2)
theorem wpList_make_own {P : Program} {e : TypeId} {w : World} {ops : Array Oper} {rest : List Oper} {o : Oper} {a : Act} {Q : Exit → Act → World → Prop} (hgd : o.guard = none) (l c : Operand) (t : TypeId) (ho : o.op = .makeSlice t l c) (hu : P.underlying t = some (.slice e))
  (hinfo : (P.info? e).map (fun i => (i.zero, i.size, i.bytes)) = some (some (.int .u8 0), 1, 1)) (n : Nat) (hl : a.eval l = .int .i64 (n : Int)) (hc : a.eval c = .int .i64 (n : Int)) (hn : n ≤ 1000000)
  (h : ∀ w', New e w (.slice (some ⟨w.heap.size, 0, none⟩) n n) (List.replicate n 0) w' → wpList P ops Q rest (a.put o.dst (.slice (some ⟨w.heap.size, 0, none⟩) n n)) w') : wpList P ops Q (o :: rest) a w :=
 wpList_plain hgd fun _ hK => wp_make_own l c t ho hu hinfo n hl hc hn fun w' h1 => hK _ _ (h w' h1)

theorem RdL.lit2G {w : World} {e : TypeId} {v1 v2 : Value} {l1 l2 : List UInt8} (h1 : Rd w v1 l1) (h2 : Rd w v2 l2) : RdL (w.alloc (.cells #[v1, v2] e)) (.slice (some ⟨w.heap.size, 0, none⟩) 2 2) [v1, v2] [l1, l2] ∧ Below w.heap.size w (w.alloc (.cells #[v1, v2] e)) := ⟨RdL.lit2 h1 h2, growB _⟩

set_option maxRecDepth 100000 in
set_option maxHeartbeats 2000000 in
theorem nonceOf_any (x : Nat) (hx : x < 18446744073709551616) (w : World) : Calls Tryd.prog 32 #[.int .u64 (x : Int)] w fun e w' => ∃ v, e = .returned v ∧ New 5 w v (ncL x) w' := by
 have HL : Hid (totL [List.replicate 4 (0 : UInt8), st8 x] ≤ 1000000000) := by show _ ≤ _; simp [totL, st8_length]
 clear hx
 go_enter Tryd.func32, Tryd.ntmps32
 go_wp2_with fail
 have hB : Below w.heap.size w w.drew := (Below.refl _ _).drew
 refine wpB_begin (Below.refl w.heap.size w) (by kernel_rfl) ?_
 refine wpB_t (hb := hB) (i := 1) (oi := ⟨some 4, .move (.tmp 0), 23, "cipher.go:84", #[], none⟩) (v := ?_) ?_ ?_
 rotate_left
 ·intro W hW; go_simp <;> with_reducible rfl
 try simp only [Act.put, putA, putB, putC]
 refine wpB_fork (i := 0) (j := 2) (oi := ⟨some 3, .makeSlice 22 (.const (.int .i64 4)) (.const (.int .i64 4)), 22, "cipher.go:84", #[], none⟩) (oj := ⟨some 5, .call { callee := .value (.func 43), args := #[.tmp 4, .const (.int .i64 8)], argTypes := #[23, 3] }, 22, "cipher.go:84", #[⟨1, .data⟩], none⟩) (by kernel_rfl) rfl rfl (by rfl) (by rfl) (fun K hK => ?_) (fun K hK => ?_)
 ·refine wp_make_own _ _ 22 rfl Tryd.underlying22 infoU8 4 rfl rfl (by decide) ?_
  intro wm hNm
  have hM := hNm.rd
  replace hB := stepB hB hNm.2
  try replace hS := Rd.kept hS hNm.2
  refine hK.out _ _ hB ?_
  clear hK K
  try simp only [Act.put, putA, putB, putC]
  refine wpB_do (i := 2) (o := ⟨some 5, .call { callee := .value (.func 43), args := #[.tmp 4, .const (.int .i64 8)], argTypes := #[23, 3] }, 22, "cipher.go:84", #[⟨1, .data⟩], none⟩) (by kernel_rfl) rfl (by rfl) fun K hK => ?_
  go_simp
  refine (store_k x 8 8 (by decide) (.inr (.inl ⟨by decide, by decide, rfl⟩)) _).mono ?_
  rintro e ws ⟨vs, rfl, hNs⟩
  have hS : Rd ws vs (st8 x) := hNs.rd
  obtain ⟨sa, sc, rfl, -⟩ := id hS
  replace hB := stepB hB hNs.2
  try replace hM := Rd.kept hM hNs.2
  refine hK.out _ _ hB ?_
  clear hK K
  try simp only [Act.put, putA, putB, putC]
  refine wpB_do (i := 3) (o := ⟨some 6, .buildSlice 42 2 #[(0, .tmp 3), (1, .tmp 5)], 42, "cipher.go:84", #[⟨0, .data⟩, ⟨2, .data⟩], none⟩) (by kernel_rfl) rfl (by rfl) fun K hK => ?_
  go_simp
  obtain ⟨hL, bL⟩ := RdL.lit2G (e := 22) hM hS
  replace hB := stepB hB bL
  refine hK.out _ _ hB ?_
  clear hK K
  try simp only [Act.put, putA, putB, putC]
  refine wpB_do (i := 4) (o := ⟨some 7, .call { callee := .value (.func 22), args := #[.tmp 6], argTypes := #[42] }, 22, "cipher.go:84", #[⟨3, .data⟩, ⟨2, .chain⟩], none⟩) (by kernel_rfl) rfl (by rfl) fun K hK => ?_
  go_simp
  refine (join_any _ _ _ _ hL HL.out).mono ?_
  rintro e wj ⟨vj, rfl, hNj⟩
  have HJ : Hid (New 5 w vj (ncL x) wj) := hNj.two.from hB
  replace hB := stepB hB hNj.2
  refine hK.out _ _ hB ?_
  clear hK K
  try simp only [Act.put, putA, putB, putC]
  refine wpB_t (hb := hB) (i := 5) (oi := ⟨some 2, .assign (.tmp 7), 22, "cipher.go:84", #[⟨4, .data⟩, ⟨4, .chain⟩, ⟨0, .phase⟩, ⟨1, .phase⟩, ⟨2, .phase⟩, ⟨3, .phase⟩, ⟨4, .phase⟩], none⟩) (v := ?_) ?_ ?_
  rotate_left
  ·intro W hW; go_simp <;> with_reducible rfl
  try simp only [Act.put, putA, putB, putC]
  refine wpB_done (by kernel_rfl) ?_
  go_wp2
  go_ret
  exact ⟨vj, rfl, HJ.out⟩
 ·go_simp
  refine (store_k x 8 8 (by decide) (.inr (.inl ⟨by decide, by decide, rfl⟩)) _).mono ?_
  rintro e ws ⟨vs, rfl, hNs⟩
  have hS : Rd ws vs (st8 x) := hNs.rd
  obtain ⟨sa, sc, rfl, -⟩ := id hS
  replace hB := stepB hB hNs.2
  try replace hM := Rd.kept hM hNs.2
  refine hK.out _ _ hB ?_
  clear hK K
  try simp only [Act.put, putA, putB, putC]
  refine wpB_do (i := 0) (o := ⟨some 3, .makeSlice 22 (.const (.int .i64 4)) (.const (.int .i64 4)), 22, "cipher.go:84", #[], none⟩) (by kernel_rfl) rfl (by rfl) fun K hK => ?_
  refine wp_make_own _ _ 22 rfl Tryd.underlying22 infoU8 4 rfl rfl (by decide) ?_
  intro wm hNm
  have hM := hNm.rd
  replace hB := stepB hB hNm.2
  try replace hS := Rd.kept hS hNm.2
  refine hK.out _ _ hB ?_
  clear hK K
  try simp only [Act.put, putA, putB, putC]
  refine wpB_do (i := 3) (o := ⟨some 6, .buildSlice 42 2 #[(0, .tmp 3), (1, .tmp 5)], 42, "cipher.go:84", #[⟨0, .data⟩, ⟨2, .data⟩], none⟩) (by kernel_rfl) rfl (by rfl) fun K hK => ?_
  go_simp
  obtain ⟨hL, bL⟩ := RdL.lit2G (e := 22) hM hS
  replace hB := stepB hB bL
  refine hK.out _ _ hB ?_
  clear hK K
  try simp only [Act.put, putA, putB, putC]
  refine wpB_do (i := 4) (o := ⟨some 7, .call { callee := .value (.func 22), args := #[.tmp 6], argTypes := #[42] }, 22, "cipher.go:84", #[⟨3, .data⟩, ⟨2, .chain⟩], none⟩) (by kernel_rfl) rfl (by rfl) fun K hK => ?_
  go_simp
  refine (join_any _ _ _ _ hL HL.out).mono ?_
  rintro e wj ⟨vj, rfl, hNj⟩
  have HJ : Hid (New 5 w vj (ncL x) wj) := hNj.two.from hB
  replace hB := stepB hB hNj.2
  refine hK.out _ _ hB ?_
  clear hK K
  try simp only [Act.put, putA, putB, putC]
  refine wpB_t (hb := hB) (i := 5) (oi := ⟨some 2, .assign (.tmp 7), 22, "cipher.go:84", #[⟨4, .data⟩, ⟨4, .chain⟩, ⟨0, .phase⟩, ⟨1, .phase⟩, ⟨2, .phase⟩, ⟨3, .phase⟩, ⟨4, .phase⟩], none⟩) (v := ?_) ?_ ?_
  rotate_left
  ·intro W hW; go_simp <;> with_reducible rfl
  try simp only [Act.put, putA, putB, putC]
  refine wpB_done (by kernel_rfl) ?_
  go_wp2
  go_ret
  exact ⟨vj, rfl, HJ.out⟩

def spC (vk vn va : Value) : List Value := [vk, vn, va]
theorem alloc_sp (w : World) : (Instr.alloc 48 true (.tuple #[])).run Tryd.prog w = .ok (.pointer (some ⟨w.heap.size, 0, none⟩)) (w.alloc (.cells (spC (.slice none 0 0) (.slice none 0 0) (.slice none 0 0)).toArray 48)) := by kernel_rfl
theorem info_sp (vk vn va : Value) : (Tryd.prog.info? 48).map (·.size) = some (spC vk vn va).length := by
 show _ = some 3
 kernel_rfl
theorem spC_all (a1 a2 a3 : Option Addr) (l1 c1 l2 c2 l3 c3 : Nat) : (spC (.slice a1 l1 c1) (.slice a2 l2 c2) (.slice a3 l3 c3)).toArray.all (·.oneCell') = true := by kernel_rfl
theorem spC_no8 (a1 a2 a3 : Option Addr) (l1 c1 l2 c2 l3 c3 : Nat) : No8 (spC (.slice a1 l1 c1) (.slice a2 l2 c2) (.slice a3 l3 c3)) := No8.of_slices (by
 intro v hv x
 simp only [spC, List.mem_cons, List.not_mem_nil, or_false] at hv
 rcases hv with rfl | rfl | rfl <;> simp)
theorem build_sp (a1 a2 a3 : Option Addr) (l1 c1 l2 c2 l3 c3 : Nat) (w : World) : (Instr.build 48 #[(0, .slice a1 l1 c1), (1, .slice a2 l2 c2), (2, .slice a3 l3 c3)]).run Tryd.prog w = .ok (.agg #[.slice a1 l1 c1, .slice a2 l2 c2, .slice a3 l3 c3]) w := by kernel_rfl
theorem wholeS (l : List Value) : l = [] ++ l ++ [] := by simp
theorem cellS {w W : World} {p : Addr} {v : Value} (h : w.cell? p = some v) (hb : Below w.drew.heap.size w.drew W) : W.cell? p = some v := by
 have h2 : w.drew.cell? p = some v := h
 rw [hb.cell (World.block_lt_of_cell? _ _ h2)]
 exact h2

set_option maxRecDepth 100000 in
set_option maxHeartbeats 2000000 in
theorem swith_any (g o : Nat) (ak aa : Option Addr) (lk ck la ca n : Nat) (hn : n < 18446744073709551616) (w : World) (hc : w.cell? ⟨g, o, none⟩ = some (.slice ak lk ck)) :
  Calls Tryd.prog 20 #[.pointer (some ⟨g, o, none⟩), .int .u64 (n : Int), .slice aa la ca] w fun e w' => ∃ vn, e = .returned (.agg #[.slice ak lk ck, vn, .slice aa la ca]) ∧ Rd w' vn (ncL n) ∧ Below w.heap.size w w' := by
 have HN : Hid _ := hn
 clear hn
 go_enter Tryd.func20, Tryd.ntmps20
 go_wp2_with (refine wpList_alloc_blk rfl 48 rfl (spC (.slice none 0 0) (.slice none 0 0) (.slice none 0 0)) (alloc_sp _) ?_)
 intro w1 r1 b1 s1
 have c0 : w1.cell? ⟨g, o, none⟩ = some (.slice ak lk ck) := by
  rw [b1.cell (World.block_lt_of_cell? _ _ hc)]
  exact hc
 have z1 : w.heap.size ≤ w.heap.size := Nat.le_refl _
 clear hc s1
 go_wp2_with fail
 refine wpE_begin 8 (by kernel_rfl) ?_
 refine wpE_t (i := 0) (oi := ⟨some 7, .move (.tmp 0), 25, "cipher.go:67", #[], none⟩) (v := ?_) ?_ ?_
 rotate_left
 ·intro W hW; go_simp <;> with_reducible rfl
 try simp only [Act.put, putA, putB, putC]
 refine wpE_t (i := 1) (oi := ⟨some 8, .nilCheck (.tmp 7), 0, "cipher.go:67", #[⟨0, .data⟩], none⟩) (v := ?_) ?_ ?_
 rotate_left
 ·intro W hW; go_simp <;> with_reducible rfl
 try simp only [Act.put, putA, putB, putC]
 refine wpE_t (i := 2) (oi := ⟨some 9, .fieldAddr 27 (.tmp 8) 0, 0, "cipher.go:67", #[⟨1, .data⟩], none⟩) (v := ?_) ?_ ?_
 rotate_left
 ·intro W hW; go_simp <;> with_reducible rfl
 try simp only [Act.put, putA, putB, putC]
 refine wpE_t (i := 3) (oi := ⟨some 10, .load 22 (.tmp 9), 22, "cipher.go:67", #[⟨2, .data⟩], none⟩) (v := ?_) ?_ ?_
 rotate_left
 ·intro W hW; have hcW := cellS c0 hW; go_simp <;> with_reducible rfl
 try simp only [Act.put, putA, putB, putC]
 refine wpE_t (i := 4) (oi := ⟨some 11, .move (.tmp 1), 23, "cipher.go:67", #[], none⟩) (v := ?_) ?_ ?_
 rotate_left
 ·intro W hW; go_simp <;> with_reducible rfl
 try simp only [Act.put, putA, putB, putC]
 refine wpE_t (i := 6) (oi := ⟨some 13, .move (.tmp 2), 22, "cipher.go:67", #[], none⟩) (v := ?_) ?_ ?_
 rotate_left
 ·intro W hW; go_simp <;> with_reducible rfl
 try simp only [Act.put, putA, putB, putC]
 refine wpE_do (i := 5) (o := ⟨some 12, .call { callee := .value (.func 32), args := #[.tmp 11], argTypes := #[23] }, 22, "cipher.go:67", #[⟨4, .data⟩], none⟩) (by kernel_rfl) rfl (by rfl) fun K hK => ?_
 go_simp
 refine (nonceOf_any n HN.out _).mono ?_
 rintro e w3 ⟨v3, rfl, hN3⟩
 obtain ⟨a3, k3, rfl, -⟩ := id hN3.rd
 refine hK.out _ _ hN3.2 ?_
 clear hK K
 try simp only [Act.put, putA, putB, putC]
 refine wpE_t (i := 7) (oi := ⟨some 14, .build 48 #[(0, .tmp 10), (1, .tmp 12), (2, .tmp 13)], 48, "cipher.go:67", #[⟨3, .data⟩, ⟨5, .data⟩, ⟨6, .data⟩], none⟩) (v := ?_) ?_ ?_
 rotate_left
 ·intro W hW; refine Eq.trans (exec_build 48 #[(0, .tmp 10), (1, .tmp 12), (2, .tmp 13)] (by rfl) #[(0, .slice ak lk ck), (1, .slice a3 (ncL n).length k3), (2, .slice aa la ca)] (by go_simp) (.agg #[.slice ak lk ck, .slice a3 (ncL n).length k3, .slice aa la ca]) (build_sp _ _ _ _ _ _ _ _ _ _)) ?_; with_reducible rfl
 try simp only [Act.put, putA, putB, putC]
 refine wpE_last (o := ⟨none, .store 48 (.tmp 6) (.tmp 14), 0, "cipher.go:67", #[⟨7, .data⟩, ⟨5, .chain⟩, ⟨0, .phase⟩, ⟨1, .phase⟩, ⟨2, .phase⟩, ⟨3, .phase⟩, ⟨4, .phase⟩, ⟨5, .phase⟩, ⟨6, .phase⟩, ⟨7, .phase⟩], none⟩) (by kernel_rfl) (by kernel_rfl) rfl (by rfl) fun K hK => ?_
 refine wp_store_part 48 _ _ rfl rfl (spC (.slice ak lk ck) (.slice a3 (ncL n).length k3) (.slice aa la ca)) rfl [] (spC (.slice none 0 0) (.slice none 0 0) (.slice none 0 0)) [] (spC (.slice ak lk ck) (.slice a3 (ncL n).length k3) (.slice aa la ca)) (r1.drew.kept hN3.2) (wholeS _) (wholeS _) rfl rfl (info_sp (.slice none 0 0) (.slice none 0 0) (.slice none 0 0)) (spC_all _ _ _ _ _ _ _ _ _) ?_
 intro w7 r7 hw7
 refine hK.out _ _ ?_
 clear hK K
 try simp only [Act.put, putA, putB, putC]
 have b3 := stepB b1.drew hN3.2
 have HX : Hid (Rd w7 (.slice a3 (ncL n).length k3) (ncL n)) := hN3.rd.past16 (r1.drew.kept hN3.2) (spC_no8 _ _ _ _ _ _ _ _ _) (Chg.of_wrote hw7)
 have HB7 : Hid _ := hw7.below _ _ z1 b3
 clear hN3 b3 r1
 go_wp2_with fail
 refine bodyPost_blk rfl rfl rfl r7 Tryd.underlying48 rfl (info_sp _ _ _) ?_
 exact ⟨_, rfl, HX.out, HB7.out⟩

set_option maxRecDepth 100000 in
set_option maxHeartbeats 2000000 in
theorem stepSeal_any (vk vn va vb : Value) (k n a b : List UInt8) (hla : a.length ≤ 3000000) (hlb : b.length ≤ 3000000) (w : World) (hP : PlT w) (hT : KpT w) (hk : Rd w vk k) (hn : Rd w vn n) (ha : Rd w va a) (hb : Rd w vb b) :
  Calls Tryd.prog 21 #[.agg #[vk, vn, va], vb] w fun e w' => ∃ r, e = .returned (.tuple #[r, .int .i64 (seA k n a b).2]) ∧ New 5 w r (seA k n a b).1 w' := by
 obtain ⟨q, hq⟩ : ∃ q, q = seA k n a b := ⟨_, rfl⟩
 rw [← hq]
 have HQ : Hid (q = seA k n a b) := hq
 obtain ⟨q1, q2⟩ := q
 clear hq
 have HK : Hid (Rd w vk k) := hk
 have HN : Hid (Rd w vn n) := hn
 have HA : Hid (Rd w va a) := ha
 have HB : Hid (Rd w vb b) := hb
 have HLA : Hid (a.length ≤ 3000000) := hla
 have HLB : Hid (b.length ≤ 3000000) := hlb
 have HP : Hid (PlT w) := hP
 have HT : Hid (KpT w) := hT
 clear hla hlb hP hT hk hn ha hb
 go_enter Tryd.func21, Tryd.ntmps21
 go_wp2_with (refine wpList_box_blk rfl 48 _ rfl (spC vk vn va) rfl ?_)
 intro w1 r1 b1 s1
 have c0 : w1.cell? ⟨w.heap.size, 0, none⟩ = some vk := r1.cell 0
 have c1 : w1.cell? ⟨w.heap.size, 1, none⟩ = some vn := r1.cell 1
 have c2 : w1.cell? ⟨w.heap.size, 2, none⟩ = some va := r1.cell 2
 clear r1 s1
 go_wp2_with fail
 refine (aseal_all _ _ _ _ k n a b HLA.out HLB.out _ (HP.out.kept b1) (HT.out.kept b1) (HK.out.kept b1) (HN.out.kept b1) (HA.out.kept b1) (HB.out.kept b1)).mono ?_
 rw [← HQ.out]
 rintro e w2 ⟨v2, rfl, hN2⟩
 have HR : Hid (New 5 w v2 q1 w2) := New.from hN2 b1
 clear hN2 c0 c1 c2
 go_wp2
 go_ret2
 exact ⟨_, rfl, HR.out⟩

set_option maxRecDepth 100000 in
set_option maxHeartbeats 2000000 in
theorem stepOpen_any (vk vn va vb : Value) (k n a b : List UInt8) (hla : a.length ≤ 3000000) (hlb : b.length ≤ 3000000) (w : World) (hP : PlT w) (hT : KpT w) (hk : Rd w vk k) (hn : Rd w vn n) (ha : Rd w va a) (hb : Rd w vb b) :
  Calls Tryd.prog 26 #[.agg #[vk, vn, va], vb] w fun e w' => ∃ r, e = .returned (.tuple #[r, .int .i64 (opA k n a b).2]) ∧ New 5 w r (opA k n a b).1 w' := by
 obtain ⟨q, hq⟩ : ∃ q, q = opA k n a b := ⟨_, rfl⟩
 rw [← hq]
 have HQ : Hid (q = opA k n a b) := hq
 obtain ⟨q1, q2⟩ := q
 clear hq
 have HK : Hid (Rd w vk k) := hk
 have HN : Hid (Rd w vn n) := hn
 have HA : Hid (Rd w va a) := ha
 have HB : Hid (Rd w vb b) := hb
 have HLA : Hid (a.length ≤ 3000000) := hla
 have HLB : Hid (b.length ≤ 3000000) := hlb
 have HP : Hid (PlT w) := hP
 have HT : Hid (KpT w) := hT
 clear hla hlb hP hT hk hn ha hb
 go_enter Tryd.func26, Tryd.ntmps26
 go_wp2_with (refine wpList_box_blk rfl 48 _ rfl (spC vk vn va) rfl ?_)
 intro w1 r1 b1 s1
 have c0 : w1.cell? ⟨w.heap.size, 0, none⟩ = some vk := r1.cell 0
 have c1 : w1.cell? ⟨w.heap.size, 1, none⟩ = some vn := r1.cell 1
 have c2 : w1.cell? ⟨w.heap.size, 2, none⟩ = some va := r1.cell 2
 clear r1 s1
 go_wp2_with fail
 refine (aopen_all _ _ _ _ k n a b HLA.out HLB.out _ (HP.out.kept b1) (HT.out.kept b1) (HK.out.kept b1) (HN.out.kept b1) (HA.out.kept b1) (HB.out.kept b1)).mono ?_
 rw [← HQ.out]
 rintro e w2 ⟨v2, rfl, hN2⟩
 have HR : Hid (New 5 w v2 q1 w2) := New.from hN2 b1
 clear hN2 c0 c1 c2
 go_wp2
 go_ret2
 exact ⟨_, rfl, HR.out⟩
theorem wpList_copy_text {P : Program} {w wr : World} {ops : Array Oper} {rest : List Oper} {o : Oper} {a : Act} {Q : Exit → Act → World → Prop} (hg : o.guard = none) (d s : Operand) (t u : TypeId)
  (ho : o.op = .call { callee := .builtin .copy, args := #[d, s], argTypes := #[t, u] }) (e : TypeId) (ht : P.underlying t = some (.slice e)) (hsz : (P.info? e).map (·.size) = some 1)
  (v : Value) (l : List UInt8) (hs : a.eval d = v) (hN : New e w v l wr) (l2 : List UInt8) (hx : a.eval s = .string ⟨l2.toArray⟩) (hlen : l2.length ≤ l.length) (hne : l ≠ [])
  (h : ∀ w', New e w v (l2 ++ l.drop l2.length) w' → wpList P ops Q rest (a.put o.dst (goInt l2.length)) w') : wpList P ops Q (o :: rest) a wr := by
 have hpos : 0 < l.length := List.length_pos_iff.2 hne
 rcases hN.1.2 with ⟨h', h0⟩ | ⟨g, cap, cur, rfl, hb, hgh, hn, hm, hss, htk⟩
 ·omega
 have hsz2 : cur.size = cap := by simpa using hss
 have hs2 : (⟨l2.toArray⟩ : ByteArray).size = l2.length := by simp [ByteArray.size]
 have hr := Lib.run_copy_row_string (P := P) wr t u o.type e g 0 l.length cap ⟨l2.toArray⟩ cur e ht hsz hgh (by rw [hs2]; exact hlen) (by rw [hs2]; omega)
 refine wpList_plain hg fun K hK => ?_
 unfold Oper.wp execOp
 simp only [ho, resolve, invoke, builtin, Sem.run_bind, Sem.run_pure, Result.andThen_ok, List.map_toArray, List.map_cons, List.map_nil, hs, hx, hr]
 rw [hs2] at *
 refine hK _ _ (h _ ?_)
 have e1 : cur.toList.take l.length = l.map bv := by simpa using htk
 have ec : Lib.byteCells (⟨l2.toArray⟩ : ByteArray).data.toList = l2.map bv := by simp [Lib.byteCells, bv]
 refine ⟨⟨by simp, .inr ⟨g, cap, _, ?_, hb, setRow_heap wr g _ _ e _ hgh, ?_, hm, ?_, ?_⟩⟩, below_setRow hN.2 hb _⟩
 ·rw [show (l2 ++ l.drop l2.length).length = l.length by simp; omega]
 ·simp; omega
 ·rw [ec]; simp; omega
 ·rw [ec, show (l2 ++ l.drop l2.length).length * 1 = l2.length + (l.length - l2.length) by simp]
  simp only [List.take_zero, List.nil_append, Nat.zero_add]
  rw [show l2.length + (l.length - l2.length) = (l2.map bv).length + (l.length - l2.length) by simp, List.take_length_add_append, List.map_append, List.map_drop, ← e1, List.drop_take]
theorem wpList_conv_text {P : Program} {w : World} {ops : Array Oper} {rest : List Oper} {o : Oper} {a : Act} {Q : Exit → Act → World → Prop} (hg : o.guard = none) (x : Operand) (src dst e : TypeId) (ho : o.op = .convert src dst x)
  (hs : P.underlying src = some .string) (hd : P.underlying dst = some (.slice e)) (he : P.underlying e = some (.int .u8)) (l : List UInt8) (hx : a.eval x = .string ⟨l.toArray⟩) (hm : l.length ≤ maxLen)
  (h : ∀ v w', Rd w' v l → Below w.heap.size w w' → wpList P ops Q rest (a.put o.dst v) w') : wpList P ops Q (o :: rest) a w := by
 have hsz : (⟨l.toArray⟩ : ByteArray).size = l.length := by simp [ByteArray.size]
 have hr := Lib.run_convert_string_bytes (P := P) w src dst e ⟨l.toArray⟩ hs hd he
 refine wpList_plain hg fun K hK => ?_
 unfold Oper.wp execOp
 simp only [ho, hx, Sem.run_bind, hr, Result.andThen_ok, Sem.run_pure]
 refine hK _ _ (h _ _ ⟨_, _, by rw [hsz], grownCap_ge _ _ _ _, grownCap_le_maxLen _ _ _ _ hm, (fun h => by cases h), .inr ⟨_, 0, rfl, fun i hi => ?_⟩⟩ ?_)
 ·rw [Nat.zero_add, Lib.bytesWorld_cell w e _ i (by rw [hsz]; exact hi)]
 ·exact ⟨rfl, rfl, rfl, by rw [Lib.bytesWorld_size]; omega, fun i hi => Lib.bytesWorld_at_old w e _ i hi⟩
def tkC (c : Cph) (b : List UInt8) (R : List UInt8 × Int) : Cph × List UInt8 × Int :=
 if c.key.length = 0 then (c, b, 0) else if c.key.length ≠ 32 then (c, [], 1) else if c.n = 18446744073709551615 then (c, [], 31) else if R.2 = 0 then (⟨c.key, c.n + 1⟩, R.1, 0) else (c, [], R.2)
theorem tkC_cases (c : Cph) (b : List UInt8) (R : List UInt8 × Int) : (c.key.length = 0 ∧ tkC c b R = (c, b, 0)) ∨ (c.key.length ≠ 0 ∧ c.key.length ≠ 32 ∧ tkC c b R = (c, [], 1)) ∨ (c.key.length = 32 ∧ c.n = 18446744073709551615 ∧ tkC c b R = (c, [], 31)) ∨ (c.key.length = 32 ∧ c.n ≠ 18446744073709551615 ∧ R.2 = 0 ∧ tkC c b R = (⟨c.key, c.n + 1⟩, R.1, 0)) ∨ (c.key.length = 32 ∧ c.n ≠ 18446744073709551615 ∧ R.2 ≠ 0 ∧ tkC c b R = (c, [], R.2)) := by
 unfold tkC
 by_cases h0 : c.key.length = 0
 ·exact .inl ⟨h0, if_pos h0⟩
 ·by_cases h1 : c.key.length = 32
  ·by_cases h2 : c.n = 18446744073709551615
   ·exact .inr (.inr (.inl ⟨h1, h2, by rw [if_neg h0, if_neg (by omega), if_pos h2]⟩))
   ·by_cases h3 : R.2 = 0
    ·exact .inr (.inr (.inr (.inl ⟨h1, h2, h3, by rw [if_neg h0, if_neg (by omega), if_neg h2, if_pos h3]⟩)))
    ·exact .inr (.inr (.inr (.inr ⟨h1, h2, h3, by rw [if_neg h0, if_neg (by omega), if_neg h2, if_neg h3]⟩)))
  ·exact .inr (.inl ⟨h0, h1, by rw [if_neg h0, if_pos h1]⟩)
theorem seC_tk (c : Cph) (a t : List UInt8) : seC c a t = tkC c t (seA c.key (ncL c.n) a t) := by
 unfold seC tkC
 split
 ·rfl
 ·split
  ·rfl
  ·split
   ·rfl
   ·rw [seA_fit ⟨by omega, ncL_length _⟩, if_pos rfl]
theorem opA_fit {k n : List UInt8} (h : fitN k n) (a s : List UInt8) : opA k n a s = opQ k n a s := if_pos h
theorem opC_tk (c : Cph) (a t : List UInt8) : opC c a t = tkC c t (opA c.key (ncL c.n) a t) := by
 unfold opC tkC
 split
 ·rfl
 ·split
  ·rfl
  ·split
   ·rfl
   ·rw [opA_fit ⟨by omega, ncL_length _⟩]

theorem RdL.lit1r {w : World} {e : TypeId} {v : Value} {l : List UInt8} {b : Nat} (hb : b = w.heap.size) (h1 : Rd w v l) : RdL (w.alloc (.cells #[v] e)) (.slice (some ⟨b, 0, none⟩) 1 1) [v] [l] :=
 RdL.lit _ _ rfl rfl hb (by simp [maxLen]) rfl (fun i hi => by
  match i with
  | 0 => exact h1
  | i + 1 => exact absurd hi (by simp))
theorem New.one {e : TypeId} {w w' : World} {v : Value} {l : List UInt8} (h : New e w v [l].flatten w') : New e w v l w' := by
 simpa using h
theorem enters16 {f : FuncId} {fn : Func} {c : Code} (hf : Tryd.prog.funcs[f]? = some fn) (hn : (fn.name == "runtime.NumGoroutine") = false) (hb : fn.body = some c) (args : Array Value) (w : World) : (callFunc f args).run Tryd.prog w = .ok (.enter f args) w := enters_of hf hn hb args w

set_option maxRecDepth 100000 in
set_option maxHeartbeats 4000000 in
theorem ctake_any (K : FuncId) (hE : ∀ (args : Array Value) (w : World), (callFunc K args).run Tryd.prog w = .ok (.enter K args) w)
  (c : Cph) (hn : c.n < 18446744073709551616) (b : List UInt8) (hlb : b.length ≤ 3000000) (R : List UInt8 × Int) (g o : Nat) (bt : TypeId) (hbt : 5 ≠ bt) (pre post : List Value) (ho : pre.length = o) (ak aa : Option Addr) (ck la ca : Nat) (vb : Value) (w : World)
  (hB : BlkAt g bt (inB pre post (.slice ak c.key.length ck) c.n) w) (hk : Rd w (.slice ak c.key.length ck) c.key) (hb : Rd w vb b)
  (hK : ∀ W vn, Below w.heap.size w W → Rd W vn (ncL c.n) → Calls Tryd.prog K #[.agg #[.slice ak c.key.length ck, vn, .slice aa la ca], vb] W fun e w' => ∃ r, e = .returned (.tuple #[r, .int .i64 R.2]) ∧ New 5 W r R.1 w') :
  Calls Tryd.prog 25 #[.pointer (some ⟨g, o, none⟩), .func (.func K) #[] #[], .slice aa la ca, vb] w fun e w' => ∃ x, e = .returned (.tuple #[x, .int .i64 (tkC c b R).2.2]) ∧ Ow 5 w.heap.size x (tkC c b R).2.1 w' ∧ Chg (fun i => i = g) w w' ∧ BlkAt g bt (inB pre post (.slice ak c.key.length ck) (tkC c b R).1.n) w' := by
 have hcase := tkC_cases c b R
 obtain ⟨key, n⟩ := c
 obtain ⟨R1, R2⟩ := R
 generalize tkC ⟨key, n⟩ b (R1, R2) = T at hcase ⊢
 obtain ⟨-, -, -, hk2, hk3, -, -⟩ := id hk
 obtain ⟨ab, cb, rfl, -⟩ := id hb
 subst ho
 replace hB : BlkAt g bt (inB pre post (.slice ak key.length ck) n) w := hB
 have c0 : w.cell? ⟨g, pre.length, none⟩ = some (.slice ak key.length ck) := by rw [hB.cell]; exact inB_get0 _ _ _ _
 have c1 : w.cell? ⟨g, pre.length + 1, none⟩ = some (.int .u64 (n : Int)) := by rw [hB.cell]; exact inB_get1 _ _ _ _
 have HB : Hid (BlkAt g bt (inB pre post (.slice ak key.length ck) n) w) := hB
 have HBB : Hid (Rd w (.slice ab b.length cb) b) := hb
 have HK : Hid _ := hK
 have HN : Hid (n < 18446744073709551616) := hn
 have HLB : Hid (b.length ≤ 3000000) := hlb
 have HBT : Hid (5 ≠ bt) := hbt
 clear hB hb hK hn hlb hbt hk
 rcases hcase with ⟨h1, rfl⟩ | ⟨h1, h2, rfl⟩ | ⟨h1, h2, rfl⟩ | ⟨h1, h2, h3, rfl⟩ | ⟨h1, h2, h3, rfl⟩
 ·have e1 : ((key.length : Int) == 0) = true := by rw [show key.length = 0 from h1]; rfl
  clear h1
  go_enter Tryd.func25, Tryd.ntmps25
  go_wp2_with fail
  refine (join_any _ _ _ _ (RdL.lit1r (e := 22) rfl HBB.out) (by have := HLB.out; simp [totL]; omega)).mono ?_
  rintro e w1 ⟨v1, rfl, hN1⟩
  have b1 := stepB (growB _) hN1.2
  have HO : Hid (Ow 5 w.heap.size v1 b w1) := Ow.mono (Ow.of_new hN1.one) (by simp)
  clear hN1
  go_wp2
  go_ret2
  exact ⟨_, rfl, HO.out, Chg.of_below b1, HB.out.kept b1⟩
 ·have h1' : key.length ≠ 0 := h1
  have h2' : key.length ≠ 32 := h2
  have e1 : ((key.length : Int) == 0) = false := by rw [beq_eq_false_iff_ne]; omega
  have e2 : ((key.length : Int) != 32) = true := by simp; omega
  clear h1 h2 h1' h2'
  go_enter Tryd.func25, Tryd.ntmps25
  go_wp2_with fail
  go_ret2
  exact ⟨_, rfl, Ow.nil _ _ _, Chg.refl _ _, HB.out⟩
 ·have h1' : key.length = 32 := h1
  have h2' : n = 18446744073709551615 := h2
  have e1 : ((key.length : Int) == 0) = false := by rw [beq_eq_false_iff_ne]; omega
  have e2 : ((key.length : Int) != 32) = false := by simp; omega
  have e3 : ((n : Int) == 18446744073709551615) = true := by simp; omega
  clear h1 h2 h1' h2'
  go_enter Tryd.func25, Tryd.ntmps25
  go_wp2_with fail
  go_ret2
  exact ⟨_, rfl, Ow.nil _ _ _, Chg.refl _ _, HB.out⟩
 ·have h1' : key.length = 32 := h1
  have h2' : n ≠ 18446744073709551615 := h2
  replace h3 : R2 = 0 := h3
  subst h3
  have e1 : ((key.length : Int) == 0) = false := by rw [beq_eq_false_iff_ne]; omega
  have e2 : ((key.length : Int) != 32) = false := by simp; omega
  have e3 : ((n : Int) == 18446744073709551615) = false := by simp; omega
  obtain ⟨m, hm⟩ : ∃ m : Nat, m = n + 1 := ⟨_, rfl⟩
  have HMm : Hid (m = n + 1) := hm
  have e4 : IntKind.u64.wrap ((n : Int) + 1) = (m : Int) := by rw [IntKind.wrap_u64]; have := HN.out; omega
  have e5 : ((n : Int) + 1) % 18446744073709551616 = (m : Int) := by have := HN.out; omega
  clear h1 h2 h1' h2' hm
  go_enter Tryd.func25, Tryd.ntmps25
  go_wp2_with fail
  refine (swith_any g pre.length ak aa key.length ck la ca n HN.out _ c0).mono ?_
  rintro e w1 ⟨vn, rfl, hvn, b1⟩
  have HV : Hid (Rd w1 vn (ncL n)) := hvn
  clear hvn c0
  go_wp2_with fail
  refine (HK.out _ _ b1 HV.out).mono ?_
  rintro e w2 ⟨v2, rfl, hN2⟩
  have b2 := stepB b1 hN2.2
  have hB2 := HB.out.kept b2
  have c1' : w2.cell? ⟨g, pre.length + 1, none⟩ = some (.int .u64 (n : Int)) := by rw [hB2.cell]; exact inB_get1 _ _ _ _
  have f1 : w2.frozen? ⟨g, pre.length + 1, none⟩ = false := hB2.free _
  have HO : Hid (Ow 5 w.heap.size v2 R1 w2) := Ow.mono (Ow.of_new hN2) b1.size
  have HB2 : Hid _ := hB2
  have HBw : Hid _ := b2
  clear hN2 hB2 b2 b1 c1 HV
  go_wp2_with fail
  go_ret2
  have hw : Wrote g w2 (w2.setCell ⟨g, pre.length + 1, none⟩ (.int .u64 (m : Int))) := Wrote.set _ _ _ _
  have hB3 := BlkAt.set HB2.out (pre.length + 1) (.int .u64 (m : Int))
  rw [inB_set] at hB3
  refine ⟨_, rfl, HO.out.chg HB2.out HBT.out (Chg.of_wrote hw), (Chg.of_below HBw.out).trans (Chg.of_wrote hw), ?_⟩
  rw [HMm.out] at hB3 ⊢
  exact hB3
 ·have h1' : key.length = 32 := h1
  have h2' : n ≠ 18446744073709551615 := h2
  replace h3 : R2 ≠ 0 := h3
  have e1 : ((key.length : Int) == 0) = false := by rw [beq_eq_false_iff_ne]; omega
  have e2 : ((key.length : Int) != 32) = false := by simp; omega
  have e3 : ((n : Int) == 18446744073709551615) = false := by simp; omega
  have e6 : (R2 != 0) = true := by simpa using h3
  clear h1 h2 h1' h2' h3
  go_enter Tryd.func25, Tryd.ntmps25
  go_wp2_with fail
  refine (swith_any g pre.length ak aa key.length ck la ca n HN.out _ c0).mono ?_
  rintro e w1 ⟨vn, rfl, hvn, b1⟩
  have HV : Hid (Rd w1 vn (ncL n)) := hvn
  clear hvn c0
  go_wp2_with fail
  refine (HK.out _ _ b1 HV.out).mono ?_
  rintro e w2 ⟨v2, rfl, hN2⟩
  have b2 := stepB b1 hN2.2
  have HBw : Hid _ := b2
  clear hN2 b2 b1 c1 HV
  go_wp2_with fail
  go_ret2
  exact ⟨_, rfl, Ow.nil _ _ _, Chg.of_below HBw.out, HB.out.kept HBw.out⟩

set_option maxRecDepth 100000 in
set_option maxHeartbeats 2000000 in
theorem cseal_any (c : Cph) (hn : c.n < 18446744073709551616) (ad t : List UInt8) (hla : ad.length ≤ 3000000) (hlt : t.length ≤ 3000000) (g o : Nat) (bt : TypeId) (hbt : 5 ≠ bt) (pre post : List Value) (ho : pre.length = o) (ak : Option Addr) (ck : Nat) (va vt : Value) (w : World)
  (hB : BlkAt g bt (inB pre post (.slice ak c.key.length ck) c.n) w) (hk : Rd w (.slice ak c.key.length ck) c.key) (ha : Rd w va ad) (ht : Rd w vt t) (hP : PlT w) (hT : KpT w) :
  Calls Tryd.prog 9 #[.pointer (some ⟨g, o, none⟩), va, vt] w fun e w' => ∃ x, e = .returned (.tuple #[x, .int .i64 (seC c ad t).2.2]) ∧ Ow 5 w.heap.size x (seC c ad t).2.1 w' ∧ Chg (fun i => i = g) w w' ∧ BlkAt g bt (inB pre post (.slice ak c.key.length ck) (seC c ad t).1.n) w' := by
 rw [seC_tk]
 obtain ⟨aa, ca, rfl, -⟩ := id ha
 have HT : Hid _ := ctake_any 21 (enters16 rfl (by kernel_rfl) rfl) c hn t hlt (seA c.key (ncL c.n) ad t) g o bt hbt pre post ho ak aa ck ad.length ca vt w hB hk ht
  fun W vn bW hvn => stepSeal_any _ _ _ _ c.key (ncL c.n) ad t hla hlt W (hP.kept bW) (hT.kept bW) (hk.kept bW) hvn (ha.kept bW) (ht.kept bW)
 generalize tkC c t (seA c.key (ncL c.n) ad t) = T at HT ⊢
 obtain ⟨c', X, E⟩ := T
 clear hB hk ha ht hP hT hla hlt hn
 go_enter Tryd.func9, Tryd.ntmps9
 go_wp2_with fail
 refine Calls.mono HT.out ?_
 rintro e w1 ⟨x, rfl, h1, h2, h3⟩
 have H1 : Hid _ := h1
 have H2 : Hid _ := h2
 have H3 : Hid _ := h3
 clear h1 h2 h3
 go_wp2
 go_ret2
 exact ⟨_, rfl, H1.out, H2.out, H3.out⟩

set_option maxRecDepth 100000 in
set_option maxHeartbeats 2000000 in
theorem copen_any (c : Cph) (hn : c.n < 18446744073709551616) (ad t : List UInt8) (hla : ad.length ≤ 3000000) (hlt : t.length ≤ 3000000) (g o : Nat) (bt : TypeId) (hbt : 5 ≠ bt) (pre post : List Value) (ho : pre.length = o) (ak : Option Addr) (ck : Nat) (va vt : Value) (w : World)
  (hB : BlkAt g bt (inB pre post (.slice ak c.key.length ck) c.n) w) (hk : Rd w (.slice ak c.key.length ck) c.key) (ha : Rd w va ad) (ht : Rd w vt t) (hP : PlT w) (hT : KpT w) :
  Calls Tryd.prog 11 #[.pointer (some ⟨g, o, none⟩), va, vt] w fun e w' => ∃ x, e = .returned (.tuple #[x, .int .i64 (opC c ad t).2.2]) ∧ Ow 5 w.heap.size x (opC c ad t).2.1 w' ∧ Chg (fun i => i = g) w w' ∧ BlkAt g bt (inB pre post (.slice ak c.key.length ck) (opC c ad t).1.n) w' := by
 rw [opC_tk]
 obtain ⟨aa, ca, rfl, -⟩ := id ha
 have HT : Hid _ := ctake_any 26 (enters16 rfl (by kernel_rfl) rfl) c hn t hlt (opA c.key (ncL c.n) ad t) g o bt hbt pre post ho ak aa ck ad.length ca vt w hB hk ht
  fun W vn bW hvn => stepOpen_any _ _ _ _ c.key (ncL c.n) ad t hla hlt W (hP.kept bW) (hT.kept bW) (hk.kept bW) hvn (ha.kept bW) (ht.kept bW)
 generalize tkC c t (opA c.key (ncL c.n) ad t) = T at HT ⊢
 obtain ⟨c', X, E⟩ := T
 clear hB hk ha ht hP hT hla hlt hn
 go_enter Tryd.func11, Tryd.ntmps11
 go_wp2_with fail
 refine Calls.mono HT.out ?_
 rintro e w1 ⟨x, rfl, h1, h2, h3⟩
 have H1 : Hid _ := h1
 have H2 : Hid _ := h2
 have H3 : Hid _ := h3
 clear h1 h2 h3
 go_wp2
 go_ret2
 exact ⟨_, rfl, H1.out, H2.out, H3.out⟩
theorem rkC_ways (c : Cph) : (c.key.length ≠ 32 ∧ (rkC c).key = c.key ∧ seA c.key (ncL 18446744073709551615) [] (List.replicate 32 0) = ([], 1)) ∨ (c.key.length = 32 ∧ (rkC c).key = (seL c.key (ncL 18446744073709551615) [] (List.replicate 32 0)).take 32 ∧ seA c.key (ncL 18446744073709551615) [] (List.replicate 32 0) = (seL c.key (ncL 18446744073709551615) [] (List.replicate 32 0), 0)) := by
 unfold rkC
 by_cases h : c.key.length = 32
 ·exact .inr ⟨h, by rw [if_pos h], seA_fit ⟨h, ncL_length _⟩ _ _⟩
 ·exact .inl ⟨h, by rw [if_neg h], seA_no (fun q => h q.1) _ _⟩
theorem rkC_len (c : Cph) (h : c.key.length = 32) : (rkC c).key.length = 32 := by
 unfold rkC
 rw [if_pos h]
 show (List.take 32 _).length = 32
 rw [List.length_take, seL_len, List.length_replicate]
 rfl
theorem cellT {w W : World} {p : Addr} {v : Value} (h : w.cell? p = some v) (hb : Below w.heap.size w W) : W.cell? p = some v := by
 rw [hb.cell (World.block_lt_of_cell? _ _ h)]
 exact h

set_option maxRecDepth 100000 in
set_option maxHeartbeats 4000000 in
theorem crekey_any (c : Cph) (g o : Nat) (bt : TypeId) (hbt : 5 ≠ bt) (pre post : List Value) (ho : pre.length = o) (ak : Option Addr) (ck : Nat) (w : World)
  (hB : BlkAt g bt (inB pre post (.slice ak c.key.length ck) c.n) w) (hk : Rd w (.slice ak c.key.length ck) c.key) (hP : PlT w) (hT : KpT w) :
  Calls Tryd.prog 7 #[.pointer (some ⟨g, o, none⟩)] w fun e w' => e = .returned (.tuple #[]) ∧ ∃ x, Rd w' x (rkC c).key ∧ Chg (fun i => i = g) w w' ∧ BlkAt g bt (inB pre post x c.n) w' := by
 have hways := rkC_ways c
 obtain ⟨key, n⟩ := c
 subst ho
 replace hB : BlkAt g bt (inB pre post (.slice ak key.length ck) n) w := hB
 replace hk : Rd w (.slice ak key.length ck) key := hk
 have c0 : w.cell? ⟨g, pre.length, none⟩ = some (.slice ak key.length ck) := by rw [hB.cell]; exact inB_get0 _ _ _ _
 have HB : Hid (BlkAt g bt (inB pre post (.slice ak key.length ck) n) w) := hB
 have HK : Hid (Rd w (.slice ak key.length ck) key) := hk
 have HP : Hid (PlT w) := hP
 have HT : Hid (KpT w) := hT
 have HBT : Hid (5 ≠ bt) := hbt
 show Calls _ _ _ _ fun e w' => e = .returned (.tuple #[]) ∧ ∃ x, Rd w' x (rkC ⟨key, n⟩).key ∧ Chg (fun i => i = g) w w' ∧ BlkAt g bt (inB pre post x n) w'
 replace hways : (key.length ≠ 32 ∧ (rkC ⟨key, n⟩).key = key ∧ seA key (ncL 18446744073709551615) [] (List.replicate 32 0) = ([], 1)) ∨ (key.length = 32 ∧ (rkC ⟨key, n⟩).key = (seL key (ncL 18446744073709551615) [] (List.replicate 32 0)).take 32 ∧ seA key (ncL 18446744073709551615) [] (List.replicate 32 0) = (seL key (ncL 18446744073709551615) [] (List.replicate 32 0), 0)) := hways
 generalize (rkC ⟨key, n⟩).key = S at hways ⊢
 have HSL : Hid (32 ≤ (seL key (ncL 18446744073709551615) [] (List.replicate 32 0)).length) := by show _ ≤ _; rw [seL_len, List.length_replicate]; omega
 generalize hD : seL key (ncL 18446744073709551615) [] (List.replicate 32 0) = D at hways HSL
 have HW : Hid _ := hways
 clear hB hk hP hT hbt hways hD
 obtain ⟨q, hq⟩ : ∃ q, q = seA key (ncL 18446744073709551615) [] (List.replicate 32 0) := ⟨_, rfl⟩
 rw [← hq] at HW
 have HQ : Hid (q = seA key (ncL 18446744073709551615) [] (List.replicate 32 0)) := hq
 clear hq
 obtain ⟨q1, q2⟩ := q
 go_enter Tryd.func7, Tryd.ntmps7
 go_upto_region 1 with fail
 go_cut [2, 3] (fun v2 v3 wx => v3 = .int .i64 q2 ∧ ∃ (a : Option Addr) (L c : Nat), v2 = .slice a L c ∧ Hid (New 5 w (.slice a L c) q1 wx))
 case first =>
  have hB : Below w.heap.size w w.drew := (Below.refl _ _).drew
  refine wpB_begin (Below.refl w.heap.size w) (by kernel_rfl) ?_
  refine wpB_t (hb := hB) (i := 0) (oi := ⟨some 7, .move (.tmp 0), 25, "cipher.go:36", #[], none⟩) (v := ?_) ?_ ?_
  rotate_left
  ·intro W hW; go_simp <;> with_reducible rfl
  try simp only [Act.put, putA, putB, putC]
  refine wpB_fork (i := 1) (j := 2) (oi := ⟨some 8, .call { callee := .value (.func 20), args := #[.tmp 7, .const (.int .u64 18446744073709551615), .const (.slice none 0 0)], argTypes := #[25, 23, 22] }, 48, "cipher.go:36", #[⟨0, .data⟩], none⟩) (oj := ⟨some 9, .makeSlice 22 (.const (.int .i64 32)) (.const (.int .i64 32)), 22, "cipher.go:36", #[], none⟩) (by kernel_rfl) rfl rfl (by rfl) (by rfl) (fun K hK => ?_) (fun K hK => ?_)
  ·go_simp
   refine (swith_any g pre.length ak none key.length ck 0 0 18446744073709551615 (by decide) _ (cellT c0 hB)).mono ?_
   rintro e ws ⟨vn, rfl, hS, bs⟩
   replace hB := stepB hB bs
   try replace hM := Rd.kept hM bs
   refine hK.out _ _ hB ?_
   clear hK K
   try simp only [Act.put, putA, putB, putC]
   refine wpB_do (i := 2) (o := ⟨some 9, .makeSlice 22 (.const (.int .i64 32)) (.const (.int .i64 32)), 22, "cipher.go:36", #[], none⟩) (by kernel_rfl) rfl (by rfl) fun K hK => ?_
   refine wp_make_own _ _ 22 rfl Tryd.underlying22 infoU8 32 rfl rfl (by decide) ?_
   intro wm hNm
   have hM := hNm.rd
   replace hB := stepB hB hNm.2
   try replace hS := Rd.kept hS hNm.2
   refine hK.out _ _ hB ?_
   clear hK K
   try simp only [Act.put, putA, putB, putC]
   refine wpB_do (i := 3) (o := ⟨some 10, .call { callee := .value (.func 21), args := #[.tmp 8, .tmp 9], argTypes := #[48, 22] }, 31, "cipher.go:36", #[⟨1, .data⟩, ⟨2, .data⟩, ⟨1, .chain⟩], none⟩) (by kernel_rfl) rfl (by rfl) fun K hK => ?_
   go_simp
   refine (stepSeal_any _ _ _ _ key (ncL 18446744073709551615) [] (List.replicate 32 0) (by decide) (by decide) _ (HP.out.kept hB) (HT.out.kept hB) (Rd.kept HK.out hB) hS (Rd.nil _) hM).mono ?_
   rw [← HQ.out]
   rintro e wj ⟨vj, rfl, hNj⟩
   have hJ := hNj.rd
   obtain ⟨aj, cj, rfl, -⟩ := id hJ
   have HJ : Hid (New 5 w _ _ wj) := hNj.from hB
   replace hB := stepB hB hNj.2
   clear hJ hNj
   refine hK.out _ _ hB ?_
   clear hK K
   try simp only [Act.put, putA, putB, putC]
   refine wpB_t (hb := hB) (i := 4) (oi := ⟨some 6, .move (.tmp 10), 31, "cipher.go:36", #[⟨3, .data⟩], none⟩) (v := ?_) ?_ ?_
   rotate_left
   ·intro W hW; go_simp <;> with_reducible rfl
   try simp only [Act.put, putA, putB, putC]
   refine wpB_t (hb := hB) (i := 5) (oi := ⟨some 11, .extract (.tmp 6) 0, 22, "cipher.go:36", #[⟨4, .data⟩], none⟩) (v := ?_) ?_ ?_
   rotate_left
   ·intro W hW; go_simp <;> with_reducible rfl
   try simp only [Act.put, putA, putB, putC]
   refine wpB_t (hb := hB) (i := 6) (oi := ⟨some 12, .extract (.tmp 6) 1, 30, "cipher.go:36", #[⟨4, .data⟩, ⟨7, .gcOnly .lateStores⟩], none⟩) (v := ?_) ?_ ?_
   rotate_left
   ·intro W hW; go_simp <;> with_reducible rfl
   try simp only [Act.put, putA, putB, putC]
   refine wpB_t (hb := hB) (i := 7) (oi := ⟨some 2, .assign (.tmp 11), 22, "cipher.go:36", #[⟨5, .data⟩, ⟨3, .chain⟩, ⟨0, .phase⟩, ⟨1, .phase⟩, ⟨2, .phase⟩, ⟨3, .phase⟩, ⟨4, .phase⟩, ⟨5, .phase⟩, ⟨6, .textOnly .lateStores⟩], none⟩) (v := ?_) ?_ ?_
   rotate_left
   ·intro W hW; go_simp <;> with_reducible rfl
   try simp only [Act.put, putA, putB, putC]
   refine wpB_t (hb := hB) (i := 8) (oi := ⟨some 3, .assign (.tmp 12), 30, "cipher.go:36", #[⟨6, .data⟩, ⟨7, .chain⟩, ⟨0, .phase⟩, ⟨1, .phase⟩, ⟨2, .phase⟩, ⟨3, .phase⟩, ⟨4, .phase⟩, ⟨5, .phase⟩, ⟨6, .phase⟩, ⟨7, .phase⟩], none⟩) (v := ?_) ?_ ?_
   rotate_left
   ·intro W hW; go_simp <;> with_reducible rfl
   try simp only [Act.put, putA, putB, putC]
   refine wpB_done (by kernel_rfl) ?_
   go_wp2_with fail
   go_meet
   exact ⟨rfl, _, _, _, rfl, HJ.out⟩
  ·refine wp_make_own _ _ 22 rfl Tryd.underlying22 infoU8 32 rfl rfl (by decide) ?_
   intro wm hNm
   have hM := hNm.rd
   replace hB := stepB hB hNm.2
   try replace hS := Rd.kept hS hNm.2
   refine hK.out _ _ hB ?_
   clear hK K
   try simp only [Act.put, putA, putB, putC]
   refine wpB_do (i := 1) (o := ⟨some 8, .call { callee := .value (.func 20), args := #[.tmp 7, .const (.int .u64 18446744073709551615), .const (.slice none 0 0)], argTypes := #[25, 23, 22] }, 48, "cipher.go:36", #[⟨0, .data⟩], none⟩) (by kernel_rfl) rfl (by rfl) fun K hK => ?_
   go_simp
   refine (swith_any g pre.length ak none key.length ck 0 0 18446744073709551615 (by decide) _ (cellT c0 hB)).mono ?_
   rintro e ws ⟨vn, rfl, hS, bs⟩
   replace hB := stepB hB bs
   try replace hM := Rd.kept hM bs
   refine hK.out _ _ hB ?_
   clear hK K
   try simp only [Act.put, putA, putB, putC]
   refine wpB_do (i := 3) (o := ⟨some 10, .call { callee := .value (.func 21), args := #[.tmp 8, .tmp 9], argTypes := #[48, 22] }, 31, "cipher.go:36", #[⟨1, .data⟩, ⟨2, .data⟩, ⟨1, .chain⟩], none⟩) (by kernel_rfl) rfl (by rfl) fun K hK => ?_
   go_simp
   refine (stepSeal_any _ _ _ _ key (ncL 18446744073709551615) [] (List.replicate 32 0) (by decide) (by decide) _ (HP.out.kept hB) (HT.out.kept hB) (Rd.kept HK.out hB) hS (Rd.nil _) hM).mono ?_
   rw [← HQ.out]
   rintro e wj ⟨vj, rfl, hNj⟩
   have hJ := hNj.rd
   obtain ⟨aj, cj, rfl, -⟩ := id hJ
   have HJ : Hid (New 5 w _ _ wj) := hNj.from hB
   replace hB := stepB hB hNj.2
   clear hJ hNj
   refine hK.out _ _ hB ?_
   clear hK K
   try simp only [Act.put, putA, putB, putC]
   refine wpB_t (hb := hB) (i := 4) (oi := ⟨some 6, .move (.tmp 10), 31, "cipher.go:36", #[⟨3, .data⟩], none⟩) (v := ?_) ?_ ?_
   rotate_left
   ·intro W hW; go_simp <;> with_reducible rfl
   try simp only [Act.put, putA, putB, putC]
   refine wpB_t (hb := hB) (i := 5) (oi := ⟨some 11, .extract (.tmp 6) 0, 22, "cipher.go:36", #[⟨4, .data⟩], none⟩) (v := ?_) ?_ ?_
   rotate_left
   ·intro W hW; go_simp <;> with_reducible rfl
   try simp only [Act.put, putA, putB, putC]
   refine wpB_t (hb := hB) (i := 6) (oi := ⟨some 12, .extract (.tmp 6) 1, 30, "cipher.go:36", #[⟨4, .data⟩, ⟨7, .gcOnly .lateStores⟩], none⟩) (v := ?_) ?_ ?_
   rotate_left
   ·intro W hW; go_simp <;> with_reducible rfl
   try simp only [Act.put, putA, putB, putC]
   refine wpB_t (hb := hB) (i := 7) (oi := ⟨some 2, .assign (.tmp 11), 22, "cipher.go:36", #[⟨5, .data⟩, ⟨3, .chain⟩, ⟨0, .phase⟩, ⟨1, .phase⟩, ⟨2, .phase⟩, ⟨3, .phase⟩, ⟨4, .phase⟩, ⟨5, .phase⟩, ⟨6, .textOnly .lateStores⟩], none⟩) (v := ?_) ?_ ?_
   rotate_left
   ·intro W hW; go_simp <;> with_reducible rfl
   try simp only [Act.put, putA, putB, putC]
   refine wpB_t (hb := hB) (i := 8) (oi := ⟨some 3, .assign (.tmp 12), 30, "cipher.go:36", #[⟨6, .data⟩, ⟨7, .chain⟩, ⟨0, .phase⟩, ⟨1, .phase⟩, ⟨2, .phase⟩, ⟨3, .phase⟩, ⟨4, .phase⟩, ⟨5, .phase⟩, ⟨6, .phase⟩, ⟨7, .phase⟩], none⟩) (v := ?_) ?_ ?_
   rotate_left
   ·intro W hW; go_simp <;> with_reducible rfl
   try simp only [Act.put, putA, putB, putC]
   refine wpB_done (by kernel_rfl) ?_
   go_wp2_with fail
   go_meet
   exact ⟨rfl, _, _, _, rfl, HJ.out⟩
 case rest =>
 obtain ⟨rfl, a4, L4, c4, rfl, HJ⟩ := hcut
 rename World => w4
 rcases HW.out with ⟨h1, h2, h3⟩ | ⟨h1, h2, h3⟩
 ·rw [Prod.mk.injEq] at h3
  obtain ⟨rfl, rfl⟩ := h3
  have HS : Hid (S = key) := h2
  clear HW h1 h2 HQ
  go_wp2_with fail
  refine bodyPost_ret (results_none rfl _ _ _) rfl ?_
  have bE := HJ.out.2
  exact ⟨rfl, _, by rw [HS.out]; exact HK.out.kept bE, Chg.of_below bE, HB.out.kept bE⟩
 ·rw [Prod.mk.injEq] at h3
  obtain ⟨rfl, rfl⟩ := h3
  have HS : Hid (S = q1.take 32) := h2
  have h5 := HJ.out.rd
  obtain ⟨a5, c5, e5, h6, h7, h8, -⟩ := h5
  simp only [Value.slice.injEq] at e5
  obtain ⟨rfl, rfl, rfl⟩ := e5
  have HX : Hid (32 ≤ q1.length ∧ q1.length ≤ c4 ∧ c4 ≤ maxLen ∧ (a4 = none → c4 = 0)) := ⟨HSL.out, h6, h7, h8⟩
  have HR : Hid (Rd w4 (.slice a4 32 c4) (q1.take 32)) := Rd.take HJ.out.rd (n := 32) HSL.out
  have HTL : Hid ((q1.take 32).length = 32) := by show _ = _; rw [List.length_take]; have := HSL.out; omega
  have HBw : Hid _ := HJ.out.2
  clear HW h1 h2 HQ h6 h7 h8 HJ HSL
  generalize q1.length = L at HX ⊢
  generalize q1.take 32 = T at HS HR HTL
  go_wp2_with (refine wpList_val rfl (exec_head _ _ (by rfl) (by rfl) (by rfl) HX.out.1 HX.out.2.1 HX.out.2.2.1 HX.out.2.2.2) ?_)
  go_wp2_with fail
  refine (join_any _ _ _ _ (RdL.lit1r (e := 22) rfl HR.out) (by have := HTL.out; simp [totL]; omega)).mono ?_
  rintro e w5 ⟨v5, rfl, hN5⟩
  replace hN5 := hN5.one
  obtain ⟨a5, d5, rfl, -⟩ := id hN5.rd
  have b5 := stepB (growB _) hN5.2
  have HO : Hid (Ow 5 w.heap.size (.slice a5 T.length d5) T w5) := Ow.mono (Ow.of_new hN5) (by have := HBw.out.size; simp; omega)
  have hB5 := (HB.out.kept HBw.out).kept b5
  have c5 : w5.cell? ⟨g, pre.length, none⟩ = some (.slice ak key.length ck) := by rw [hB5.cell]; exact inB_get0 _ _ _ _
  have f5 : w5.frozen? ⟨g, pre.length, none⟩ = false := hB5.free _
  have HB5 : Hid _ := hB5
  have HBe : Hid _ := stepB HBw.out b5
  clear hN5 hB5 b5 c0 HR HX HBw
  go_wp2_with fail
  go_end0
  have hw : Wrote g w5 (w5.setCell ⟨g, pre.length, none⟩ (.slice a5 T.length d5)) := Wrote.set _ _ _ _
  have hB6 := BlkAt.set HB5.out pre.length (.slice a5 T.length d5)
  rw [inB_set0] at hB6
  refine ⟨rfl, _, ?_, (Chg.of_below HBe.out).trans (Chg.of_wrote hw), hB6⟩
  rw [HS.out]
  exact (HO.out.chg HB5.out HBT.out (Chg.of_wrote hw)).rd
def StP (base g : Nat) (s : Sta) (w : World) : Prop := ∃ vc vh vk, BlkAt g 45 (stD vc vh vk s.c.n) w ∧ Ow 5 base vc s.ck w ∧ Ow 5 base vh s.h w ∧ Ow 5 base vk s.c.key w
theorem ne_state : (5 : TypeId) ≠ 45 := by decide
theorem ne_cipher : (5 : TypeId) ≠ 27 := by decide
theorem StP.kept {base g : Nat} {s : Sta} {w w' : World} (h : StP base g s w) (hb : Below w.heap.size w w') : StP base g s w' := by
 obtain ⟨vc, vh, vk, h1, h2, h3, h4⟩ := h
 exact ⟨vc, vh, vk, h1.kept hb, h2.kept hb, h3.kept hb, h4.kept hb⟩
theorem StP.lt {base g : Nat} {s : Sta} {w : World} (h : StP base g s w) : g < w.heap.size := by
 obtain ⟨vc, vh, vk, h1, -⟩ := h
 exact h1.lt
theorem StP.other {base g g2 : Nat} {s s2 : Sta} {w w' : World} (h : StP base g s w) (h2 : StP base g2 s2 w) (c : Chg (fun b => b = g2) w w') (hne : g ≠ g2) : StP base g s w' := by
 obtain ⟨vc, vh, vk, q1, q2, q3, q4⟩ := h
 obtain ⟨uc, uh, uk, p1, -⟩ := h2
 exact ⟨vc, vh, vk, q1.chg c hne, q2.chg p1 ne_state c, q3.chg p1 ne_state c, q4.chg p1 ne_state c⟩
theorem StP.row {base g b : Nat} {s : Sta} {w w' : World} (h : StP base g s w) (c : Chg (fun i => i = b) w w') (hg : g ≠ b) (hb : ∀ v l, Ow 5 base v l w → (l = s.ck ∨ l = s.h ∨ l = s.c.key) → v.ownBlock ≠ some b) : StP base g s w' := by
 obtain ⟨vc, vh, vk, q1, q2, q3, q4⟩ := h
 exact ⟨vc, vh, vk, q1.chg c hg, q2.other c (hb _ _ q2 (.inl rfl)), q3.other c (hb _ _ q3 (.inr (.inl rfl))), q4.other c (hb _ _ q4 (.inr (.inr rfl)))⟩
theorem StP.far {base g : Nat} {s : Sta} {w w' : World} {v : Value} {l : List UInt8} (h : Rd w v l) (hs : StP base g s w) (c : Chg (fun b => b = g) w w') : Rd w' v l := by
 obtain ⟨vc, vh, vk, h1, h2, h3, h4⟩ := hs
 obtain ⟨a1, c1, rfl, -⟩ := h2.rd
 obtain ⟨a2, c2, rfl, -⟩ := h3.rd
 obtain ⟨a3, c3, rfl, -⟩ := h4.rd
 exact h.past16 h1 (stD_no8 _ _ _ _ _ _ _ _ _ _) c
theorem StP.own {base base2 g : Nat} {s : Sta} {w w' : World} {v : Value} {l : List UInt8} (h : Ow 5 base2 v l w) (hs : StP base g s w) (c : Chg (fun b => b = g) w w') : Ow 5 base2 v l w' := by
 obtain ⟨vc, vh, vk, h1, -⟩ := hs
 exact h.chg h1 ne_state c

theorem build_kc (a : Option Addr) (l c : Nat) (w : World) : (Instr.build 27 #[(0, .slice a l c)]).run Tryd.prog w = .ok (.agg #[.slice a l c, .int .u64 0]) w := by kernel_rfl
theorem info_kc (vk : Value) (n : Nat) : (Tryd.prog.info? 27).map (·.size) = some (ckD vk n).length := by
 show _ = some 2
 kernel_rfl
theorem ckD_all (a : Option Addr) (l c n : Nat) : (ckD (.slice a l c) n).toArray.all (·.oneCell') = true := by kernel_rfl
theorem alloc_kc (w : World) : (Instr.alloc 27 true (.tuple #[])).run Tryd.prog w = .ok (.pointer (some ⟨w.heap.size, 0, none⟩)) (w.alloc (.cells (ckD (.slice none 0 0) 0).toArray 27)) := by kernel_rfl

set_option maxRecDepth 100000 in
set_option maxHeartbeats 2000000 in
theorem smixhash_any (base g : Nat) (s : Sta) (vb : Value) (b : List UInt8) (hl : s.h.length + b.length ≤ 100000000) (w : World) (hbase : base ≤ w.heap.size) (hS : StP base g s w) (hb : Rd w vb b) (ht : Tabs w) :
  Calls Tryd.prog 14 #[.pointer (some ⟨g, 0, none⟩), vb] w fun e w' => e = .returned (.tuple #[]) ∧ StP base g (mhS s b) w' ∧ Chg (fun i => i = g) w w' := by
 obtain ⟨ck, h, ⟨key, n⟩⟩ := s
 obtain ⟨vc, vh, vk, hB, hc, hh, hk⟩ := hS
 replace hB : BlkAt g 45 (stD vc vh vk n) w := hB
 replace hc : Ow 5 base vc ck w := hc
 replace hh : Ow 5 base vh h w := hh
 replace hk : Ow 5 base vk key w := hk
 obtain ⟨ac, cc, rfl, -⟩ := id hc.rd
 obtain ⟨ah, ch, rfl, -⟩ := id hh.rd
 obtain ⟨ak, ck', rfl, -⟩ := id hk.rd
 obtain ⟨ab, cb, rfl, -⟩ := id hb
 have c1 : w.cell? ⟨g, 1, none⟩ = some (.slice ah h.length ch) := hB.cell 1
 have HB : Hid (BlkAt g 45 _ w) := hB
 have HC : Hid (Ow 5 base _ ck w) := hc
 have HH : Hid (Ow 5 base _ h w) := hh
 have HK : Hid (Ow 5 base _ key w) := hk
 have HBb : Hid (Rd w _ b) := hb
 have HT : Hid (Tabs w) := ht
 have HL : Hid (totL [h, b] ≤ 1000000000) := (by have : h.length + b.length ≤ 100000000 := hl; simp [totL]; omega : totL [h, b] ≤ 1000000000)
 have HBs : Hid _ := hbase
 have HM : Hid (mhS ⟨ck, h, ⟨key, n⟩⟩ b = ⟨ck, s2L (h ++ b), ⟨key, n⟩⟩) := rfl
 generalize mhS ⟨ck, h, ⟨key, n⟩⟩ b = M at HM ⊢
 clear hl hB hc hh hk hb ht hbase
 go_enter Tryd.func14, Tryd.ntmps14
 go_wp2_with fail
 refine (join_any _ _ _ _ (RdL.lit2b (e := 22) rfl HH.out.rd HBb.out) HL.out).mono ?_
 rintro e w1 ⟨v1, rfl, hN1⟩
 have b1 := stepB (growB _) hN1.2
 have HR : Hid (Rd w1 v1 (h ++ b)) := hN1.two.rd
 clear hN1 c1
 go_wp2_with fail
 refine (sum256_any _ (h ++ b) _ HR.out (HT.out.kept b1)).mono ?_
 rintro e w2 ⟨v2, rfl, hN2⟩
 have b2 := stepB b1 hN2.2
 have hO : Ow 5 base v2 (s2L (h ++ b)) w2 := Ow.mono (Ow.of_new hN2) (Nat.le_trans HBs.out b1.size)
 obtain ⟨X, hX⟩ : ∃ X, X = s2L (h ++ b) := ⟨_, rfl⟩
 rw [← hX] at hO
 have HX : Hid (X = s2L (h ++ b)) := hX
 obtain ⟨a2, c2, rfl, -⟩ := id hO.rd
 have HO : Hid (Ow 5 base _ X w2) := hO
 have hB2 := HB.out.kept b2
 have c1 : w2.cell? ⟨g, 1, none⟩ = some (.slice ah h.length ch) := hB2.cell 1
 have f1 : w2.frozen? ⟨g, 1, none⟩ = false := hB2.free _
 have HB2 : Hid (BlkAt g 45 _ w2) := hB2
 have HBw : Hid (Below w.heap.size w w2) := b2
 clear hN2 b1 b2 hB2 hX hO HR
 go_wp2_with fail
 go_end0
 have hw : Wrote g w2 (w2.setCell ⟨g, 1, none⟩ (.slice a2 X.length c2)) := Wrote.set _ _ _ _
 have cw := Chg.of_wrote hw
 have hB3 : BlkAt g 45 (stD (.slice ac ck.length cc) (.slice a2 X.length c2) (.slice ak key.length ck') n) _ := BlkAt.set HB2.out 1 (.slice a2 X.length c2)
 refine ⟨rfl, ?_, (Chg.of_below HBw.out).trans cw⟩
 rw [HM.out, ← HX.out]
 exact ⟨_, _, _, hB3, (HC.out.kept HBw.out).chg HB2.out ne_state cw, HO.out.chg HB2.out ne_state cw, (HK.out.kept HBw.out).chg HB2.out ne_state cw⟩
theorem part_st (vc vh vk : Value) (n : Nat) : stD vc vh vk n = [vc, vh] ++ ckD vk n ++ [] := rfl

set_option maxRecDepth 100000 in
set_option maxHeartbeats 2000000 in
theorem smixkey_any (base g : Nat) (s : Sta) (vb : Value) (b : List UInt8) (hl : b.length ≤ 100000) (w : World) (hbase : base ≤ w.heap.size) (hS : StP base g s w) (hb : Rd w vb b) (ht : Tabs w) :
  Calls Tryd.prog 13 #[.pointer (some ⟨g, 0, none⟩), vb] w fun e w' => e = .returned (.tuple #[]) ∧ StP base g (mkS s b) w' ∧ Chg (fun i => i = g) w w' := by
 obtain ⟨ck, h, ⟨key, n⟩⟩ := s
 obtain ⟨vc, vh, vk, hB, hc, hh, hk⟩ := hS
 replace hB : BlkAt g 45 (stD vc vh vk n) w := hB
 replace hc : Ow 5 base vc ck w := hc
 replace hh : Ow 5 base vh h w := hh
 replace hk : Ow 5 base vk key w := hk
 obtain ⟨ac, cc, rfl, -⟩ := id hc.rd
 obtain ⟨ah, ch, rfl, -⟩ := id hh.rd
 obtain ⟨ak, ck', rfl, -⟩ := id hk.rd
 have c0 : w.cell? ⟨g, 0, none⟩ = some (.slice ac ck.length cc) := hB.cell 0
 have HB : Hid (BlkAt g 45 _ w) := hB
 have HC : Hid (Ow 5 base _ ck w) := hc
 have HH : Hid (Ow 5 base _ h w) := hh
 have HBb : Hid (Rd w _ b) := hb
 have HT : Hid (Tabs w) := ht
 have HL : Hid (b.length ≤ 100000) := hl
 have HBs : Hid _ := hbase
 have HM : Hid (mkS ⟨ck, h, ⟨key, n⟩⟩ b = ⟨k1F ck b, h, ⟨k2F ck b, 0⟩⟩) := rfl
 generalize mkS ⟨ck, h, ⟨key, n⟩⟩ b = M at HM ⊢
 clear hl hB hc hh hk hb ht hbase
 go_enter Tryd.func13, Tryd.ntmps13
 go_wp2_with fail
 refine (two_own _ _ ck b HL.out _ HC.out.rd HBb.out HT.out).mono ?_
 rintro e w2 ⟨v1, v2, rfl, hO1, hO2, b2⟩
 replace hO1 := hO1.mono HBs.out
 replace hO2 := hO2.mono HBs.out
 generalize k1F ck b = X at HM hO1
 generalize k2F ck b = Y at HM hO2
 obtain ⟨a1, d1, rfl, -⟩ := id hO1.rd
 obtain ⟨a2, d2, rfl, -⟩ := id hO2.rd
 have hB2 := HB.out.kept b2
 have c1 : w2.cell? ⟨g, 0, none⟩ = some (.slice ac ck.length cc) := hB2.cell 0
 have f1 : w2.frozen? ⟨g, 0, none⟩ = false := hB2.free _
 have r3 : BlkAt g 45 (stD (.slice a1 X.length d1) (.slice ah h.length ch) (.slice ak key.length ck') n) (w2.setCell ⟨g, 0, none⟩ (.slice a1 X.length d1)) := BlkAt.set hB2 0 (.slice a1 X.length d1)
 have HB2 : Hid (BlkAt g 45 _ w2) := hB2
 have HBw : Hid (Below w.heap.size w w2) := b2
 have HO1 : Hid (Ow 5 base _ X w2) := hO1
 have HO2 : Hid (Ow 5 base _ Y w2) := hO2
 clear b2 hB2 hO1 hO2 c0
 go_wp2_with (first | refine wpList_buildB rfl 27 #[(0, .tmp 20)] rfl #[(0, .slice a2 Y.length d2)] (by go_simp) (.agg #[.slice a2 Y.length d2, .int .u64 0]) (build_kc _ _ _ _) ?_ | (refine wpList_store_part rfl 27 _ _ rfl rfl (ckD (.slice a2 Y.length d2) 0) rfl [.slice a1 X.length d1, .slice ah h.length ch] (ckD (.slice ak key.length ck') n) [] (stD (.slice a1 X.length d1) (.slice ah h.length ch) (.slice a2 Y.length d2) 0) r3 (part_st _ _ _ _) (part_st _ _ _ _) rfl rfl (info_kc (.slice ak key.length ck') n) (ckD_all _ _ _ _) ?_; intro w7 r7 hw7))
 go_end0
 have hw : Wrote g w2 (w2.setCell ⟨g, 0, none⟩ (.slice a1 X.length d1)) := Wrote.set _ _ _ _
 have cw := (Chg.of_wrote hw).trans (Chg.of_wrote hw7)
 refine ⟨rfl, ?_, (Chg.of_below HBw.out).trans cw⟩
 rw [HM.out]
 exact ⟨_, _, _, r7, HO1.out.chg HB2.out ne_state cw, (HH.out.kept HBw.out).chg HB2.out ne_state cw, HO2.out.chg HB2.out ne_state cw⟩

set_option maxRecDepth 100000 in
set_option maxHeartbeats 2000000 in
theorem smixboth_any (base g : Nat) (s : Sta) (vb : Value) (b : List UInt8) (hl : b.length ≤ 100000) (hlh : s.h.length ≤ 100000) (w : World) (hbase : base ≤ w.heap.size) (hbg : base ≤ g) (hS : StP base g s w) (hb : Rd w vb b) (w0 : World) (hw0 : w0.heap.size = base) (hbw0 : Below w0.heap.size w0 w) (ht : Tabs w0) :
  Calls Tryd.prog 15 #[.pointer (some ⟨g, 0, none⟩), vb] w fun e w' => e = .returned (.tuple #[]) ∧ StP base g (mbS s b) w' ∧ Chg (fun i => i = g) w w' := by
 obtain ⟨ck, h, ⟨key, n⟩⟩ := s
 obtain ⟨vc, vh, vk, hB, hc, hh, hk⟩ := hS
 replace hB : BlkAt g 45 (stD vc vh vk n) w := hB
 replace hc : Ow 5 base vc ck w := hc
 replace hh : Ow 5 base vh h w := hh
 replace hk : Ow 5 base vk key w := hk
 obtain ⟨ac, cc, rfl, -⟩ := id hc.rd
 obtain ⟨ah, ch, rfl, -⟩ := id hh.rd
 obtain ⟨ak, ck', rfl, -⟩ := id hk.rd
 have c0 : w.cell? ⟨g, 0, none⟩ = some (.slice ac ck.length cc) := hB.cell 0
 have HB : Hid (BlkAt g 45 _ w) := hB
 have HC : Hid (Ow 5 base _ ck w) := hc
 have HH : Hid (Ow 5 base _ h w) := hh
 have HBb : Hid (Rd w _ b) := hb
 have HT : Hid (Tabs w0) := ht
 have HL : Hid (b.length ≤ 100000) := hl
 have HLh : Hid (h.length ≤ 100000) := hlh
 have HBs : Hid _ := hbase
 have HBg : Hid _ := hbg
 have HW0 : Hid _ := hw0
 have HBW0 : Hid (Below w0.heap.size w0 w) := hbw0
 have HM : Hid (mbS ⟨ck, h, ⟨key, n⟩⟩ b = ⟨k1F ck b, s2L (h ++ k2F ck b), ⟨k3F ck b, 0⟩⟩) := rfl
 have HLY : Hid ((k2F ck b).length = 32) := mcF_length _ _
 generalize mbS ⟨ck, h, ⟨key, n⟩⟩ b = M at HM ⊢
 clear hl hB hc hh hk hb ht hbase hbg hw0 hbw0 hlh
 go_enter Tryd.func15, Tryd.ntmps15
 go_wp2_with fail
 refine (three_own _ _ ck b HL.out _ HC.out.rd HBb.out (HT.out.kept HBW0.out)).mono ?_
 rintro e w2 ⟨v1, v2, v3, rfl, hO1, hO2, hO3, b2⟩
 replace hO1 := hO1.mono HBs.out
 replace hO2 := hO2.mono HBs.out
 replace hO3 := hO3.mono HBs.out
 generalize k1F ck b = X at HM hO1
 generalize k2F ck b = Y at HM hO2 HLY
 generalize k3F ck b = Z at HM hO3
 obtain ⟨a1, d1, rfl, -⟩ := id hO1.rd
 obtain ⟨a2, d2, rfl, -⟩ := id hO2.rd
 obtain ⟨a3, d3, rfl, -⟩ := id hO3.rd
 have hB2 := HB.out.kept b2
 have c1 : w2.cell? ⟨g, 0, none⟩ = some (.slice ac ck.length cc) := hB2.cell 0
 have f1 : w2.frozen? ⟨g, 0, none⟩ = false := hB2.free _
 have r3 : BlkAt g 45 (stD (.slice a1 X.length d1) (.slice ah h.length ch) (.slice ak key.length ck') n) (w2.setCell ⟨g, 0, none⟩ (.slice a1 X.length d1)) := BlkAt.set hB2 0 (.slice a1 X.length d1)
 have HB2 : Hid (BlkAt g 45 _ w2) := hB2
 have HBw : Hid (Below w.heap.size w w2) := b2
 have HO1 : Hid (Ow 5 base _ X w2) := hO1
 have HO2 : Hid (Ow 5 base _ Y w2) := hO2
 have HO3 : Hid (Ow 5 base _ Z w2) := hO3
 clear b2 hB2 hO1 hO2 hO3 c0
 go_wp2_with (first | refine wpList_buildB rfl 27 #[(0, .tmp 22)] rfl #[(0, .slice a3 Z.length d3)] (by go_simp) (.agg #[.slice a3 Z.length d3, .int .u64 0]) (build_kc _ _ _ _) ?_ | (refine wpList_store_part rfl 27 _ _ rfl rfl (ckD (.slice a3 Z.length d3) 0) rfl [.slice a1 X.length d1, .slice ah h.length ch] (ckD (.slice ak key.length ck') n) [] (stD (.slice a1 X.length d1) (.slice ah h.length ch) (.slice a3 Z.length d3) 0) r3 (part_st _ _ _ _) (part_st _ _ _ _) rfl rfl (info_kc (.slice ak key.length ck') n) (ckD_all _ _ _ _) ?_; intro w7 r7 hw7))
 have hw : Wrote g w2 (w2.setCell ⟨g, 0, none⟩ (.slice a1 X.length d1)) := Wrote.set _ _ _ _
 have cw := (Chg.of_wrote hw).trans (Chg.of_wrote hw7)
 have hS7 : StP base g ⟨X, h, ⟨Z, 0⟩⟩ w7 := ⟨_, _, _, r7, HO1.out.chg HB2.out ne_state cw, (HH.out.kept HBw.out).chg HB2.out ne_state cw, HO3.out.chg HB2.out ne_state cw⟩
 have hY7 := (HO2.out.chg HB2.out ne_state cw).rd
 have cW := (Chg.of_below HBw.out).trans cw
 have bW : Below w0.heap.size w0 w7 := Chg.gone HBW0.out cW HBW0.out.size (by rw [HW0.out]; exact HBg.out)
 have HS7 : Hid _ := hS7
 have HY7 : Hid _ := hY7
 have HCW : Hid _ := cW
 have HBW : Hid _ := bW
 have z7 : base ≤ w7.heap.size := by have := bW.size; have := HW0.out; omega
 have HZ7 : Hid _ := z7
 clear hw cw hS7 hY7 cW bW z7 r7 r3 hw7 c1 f1
 refine (smixhash_any base g _ _ Y (by have := HLh.out; have := HLY.out; show h.length + Y.length ≤ _; omega) _ HZ7.out HS7.out HY7.out (HT.out.kept HBW.out)).mono ?_
 rintro e w8 ⟨rfl, hS8, c8⟩
 have HS8 : Hid _ := hS8
 have HC8 : Hid _ := c8
 clear hS8 c8
 go_wp2_with fail
 go_end0
 refine ⟨rfl, ?_, HCW.out.trans HC8.out⟩
 rw [HM.out]
 exact HS8.out
theorem seS_ways (s : Sta) (t : List UInt8) : ((seC s.c s.h t).2.2 = 0 ∧ seS s t = (⟨s.ck, s2L (s.h ++ (seC s.c s.h t).2.1), (seC s.c s.h t).1⟩, (seC s.c s.h t).2.1, 0)) ∨ ((seC s.c s.h t).2.2 ≠ 0 ∧ seS s t = (s, [], (seC s.c s.h t).2.2)) := by
 unfold seS
 by_cases h : (seC s.c s.h t).2.2 = 0
 ·exact .inl ⟨h, if_pos h⟩
 ·exact .inr ⟨h, if_neg h⟩
theorem opS_ways (s : Sta) (t : List UInt8) : ((opC s.c s.h t).2.2 = 0 ∧ opS s t = (⟨s.ck, s2L (s.h ++ t), (opC s.c s.h t).1⟩, (opC s.c s.h t).2.1, 0)) ∨ ((opC s.c s.h t).2.2 ≠ 0 ∧ opS s t = (s, [], (opC s.c s.h t).2.2)) := by
 unfold opS
 by_cases h : (opC s.c s.h t).2.2 = 0
 ·exact .inl ⟨h, if_pos h⟩
 ·exact .inr ⟨h, if_neg h⟩
theorem seC_err (c : Cph) (a t : List UInt8) (h : (seC c a t).2.2 ≠ 0) : (seC c a t).1 = c := by
 unfold seC at h ⊢
 split <;> try rfl
 split <;> try rfl
 split <;> try rfl
 next h1 h2 h3 => rw [if_neg h1, if_neg h2, if_neg h3] at h; exact absurd rfl h
theorem opC_err (c : Cph) (a t : List UInt8) (h : (opC c a t).2.2 ≠ 0) : (opC c a t).1 = c := by
 unfold opC at h ⊢
 split <;> try rfl
 split <;> try rfl
 split <;> try rfl
 split <;> try rfl
 next h1 h2 h3 h4 => rw [if_neg h1, if_neg h2, if_neg h3, if_pos h4] at h; exact absurd rfl h

set_option maxRecDepth 100000 in
set_option maxHeartbeats 4000000 in
theorem sseal_any (base g : Nat) (s : Sta) (hn : s.c.n < 18446744073709551616) (vt : Value) (t : List UInt8) (hlt : t.length ≤ 100000) (hlh : s.h.length ≤ 100000) (w : World) (hbg : base ≤ g) (hS : StP base g s w) (ht : Rd w vt t) (w0 : World) (hw0 : w0.heap.size = base) (hbw0 : Below w0.heap.size w0 w) (hTb : Tabs w0) (hP : PlT w0) (hT : KpT w0) :
  Calls Tryd.prog 16 #[.pointer (some ⟨g, 0, none⟩), vt] w fun e w' => ∃ x, e = .returned (.tuple #[x, .int .i64 (seS s t).2.2]) ∧ Ow 5 w.heap.size x (seS s t).2.1 w' ∧ StP base g (seS s t).1 w' ∧ Chg (fun i => i = g) w w' := by
 have hways := seS_ways s t
 have herr := seC_err s.c s.h t
 have hfac := seC_facts s.c s.h t hn
 have hS0 := hS
 obtain ⟨ck, h, ⟨key, n⟩⟩ := s
 obtain ⟨vc, vh, vk, hB, hc, hh, hk⟩ := hS
 replace hB : BlkAt g 45 (stD vc vh vk n) w := hB
 replace hc : Ow 5 base vc ck w := hc
 replace hh : Ow 5 base vh h w := hh
 replace hk : Ow 5 base vk key w := hk
 obtain ⟨ac, cc, rfl, -⟩ := id hc.rd
 obtain ⟨ah, ch, rfl, -⟩ := id hh.rd
 obtain ⟨ak, ck', rfl, -⟩ := id hk.rd
 have c1 : w.cell? ⟨g, 1, none⟩ = some (.slice ah h.length ch) := hB.cell 1
 have z0 : base ≤ w.heap.size := by have := hbw0.size; omega
 replace hways : ((seC ⟨key, n⟩ h t).2.2 = 0 ∧ seS ⟨ck, h, ⟨key, n⟩⟩ t = (⟨ck, s2L (h ++ (seC ⟨key, n⟩ h t).2.1), (seC ⟨key, n⟩ h t).1⟩, (seC ⟨key, n⟩ h t).2.1, 0)) ∨ ((seC ⟨key, n⟩ h t).2.2 ≠ 0 ∧ seS ⟨ck, h, ⟨key, n⟩⟩ t = (⟨ck, h, ⟨key, n⟩⟩, [], (seC ⟨key, n⟩ h t).2.2)) := hways
 replace herr : (seC ⟨key, n⟩ h t).2.2 ≠ 0 → (seC ⟨key, n⟩ h t).1 = ⟨key, n⟩ := herr
 replace hfac : (seC ⟨key, n⟩ h t).1.key = key ∧ (seC ⟨key, n⟩ h t).1.n < 18446744073709551616 ∧ (seC ⟨key, n⟩ h t).2.1.length ≤ t.length + 16 := hfac
 have HCall : Hid _ := fun W (bW : Below w.heap.size w W) => cseal_any ⟨key, n⟩ hn h t (by have : h.length ≤ 100000 := hlh; omega) (by omega) g 2 45 ne_state [.slice ac ck.length cc, .slice ah h.length ch] [] rfl ak ck' (.slice ah h.length ch) vt W (BlkAt.kept hB bW) (hk.kept bW).rd (hh.kept bW).rd (ht.kept bW) (hP.kept (stepB hbw0 bW)) (hT.kept (stepB hbw0 bW))
 generalize seS ⟨ck, h, ⟨key, n⟩⟩ t = S at hways ⊢
 generalize seC ⟨key, n⟩ h t = Q at hways herr hfac HCall
 obtain ⟨⟨kq, m⟩, X, E⟩ := Q
 obtain ⟨hkq, hm, hX⟩ := hfac
 replace hkq : kq = key := hkq
 subst hkq
 have HW : Hid ((E = 0 ∧ S = (⟨ck, s2L (h ++ X), ⟨kq, m⟩⟩, X, 0)) ∨ (E ≠ 0 ∧ S = (⟨ck, h, ⟨kq, n⟩⟩, [], E))) := hways
 have HE : Hid (E ≠ 0 → (⟨kq, m⟩ : Cph) = ⟨kq, n⟩) := herr
 have HX : Hid (X.length ≤ t.length + 16) := hX
 have HB : Hid (BlkAt g 45 _ w) := hB
 have HC : Hid (Ow 5 base _ ck w) := hc
 have HH : Hid (Ow 5 base _ h w) := hh
 have HK : Hid (Ow 5 base _ kq w) := hk
 have HLh : Hid (h.length ≤ 100000) := hlh
 have HLt : Hid (t.length ≤ 100000) := hlt
 have HTt : Hid (Rd w vt t) := ht
 have HTb : Hid (Tabs w0) := hTb
 have HBg : Hid _ := hbg
 have HW0 : Hid _ := hw0
 have HBW0 : Hid (Below w0.heap.size w0 w) := hbw0
 have HZ0 : Hid _ := z0
 clear hB hc hh hk hlh hlt ht hTb hP hT hbg hw0 hbw0 hn hways herr hX hm hS0 z0
 go_enter Tryd.func16, Tryd.ntmps16
 go_wp2_with fail
 have hB : Below w.heap.size w w.drew := (Below.refl _ _).drew
 refine wpF_begin 8 (w0 := w) (by kernel_rfl) ?_
 refine wpF_p (hb := .inr hB) (i := 0) (oi := ⟨some 11, .move (.tmp 0), 36, "sym.go:67", #[], none⟩) (v := ?_) ?_ ?_
 rotate_left
 ·intro W; go_simp <;> with_reducible rfl
 try simp only [Act.put, putA, putB, putC]
 refine wpF_p (hb := .inr hB) (i := 1) (oi := ⟨some 12, .nilCheck (.tmp 11), 0, "sym.go:67", #[⟨0, .data⟩], none⟩) (v := ?_) ?_ ?_
 rotate_left
 ·intro W; go_simp <;> with_reducible rfl
 try simp only [Act.put, putA, putB, putC]
 refine wpF_p (hb := .inr hB) (i := 2) (oi := ⟨some 13, .fieldAddr 45 (.tmp 12) 2, 0, "sym.go:67", #[⟨1, .data⟩], none⟩) (v := ?_) ?_ ?_
 rotate_left
 ·intro W; go_simp <;> with_reducible rfl
 try simp only [Act.put, putA, putB, putC]
 refine wpF_p (hb := .inr hB) (i := 3) (oi := ⟨some 14, .move (.tmp 0), 36, "sym.go:67", #[], none⟩) (v := ?_) ?_ ?_
 rotate_left
 ·intro W; go_simp <;> with_reducible rfl
 try simp only [Act.put, putA, putB, putC]
 refine wpF_p (hb := .inr hB) (i := 4) (oi := ⟨some 15, .nilCheck (.tmp 14), 0, "sym.go:67", #[⟨3, .data⟩], none⟩) (v := ?_) ?_ ?_
 rotate_left
 ·intro W; go_simp <;> with_reducible rfl
 try simp only [Act.put, putA, putB, putC]
 refine wpF_p (hb := .inr hB) (i := 5) (oi := ⟨some 16, .fieldAddr 45 (.tmp 15) 1, 0, "sym.go:67", #[⟨4, .data⟩], none⟩) (v := ?_) ?_ ?_
 rotate_left
 ·intro W; go_simp <;> with_reducible rfl
 try simp only [Act.put, putA, putB, putC]
 refine wpF_t (hb := hB) (i := 6) (oi := ⟨some 17, .load 22 (.tmp 16), 22, "sym.go:67", #[⟨5, .data⟩], none⟩) (v := ?_) ?_ ?_
 rotate_left
 ·intro W hW; have hcW := cellT c1 hW; go_simp <;> with_reducible rfl
 try simp only [Act.put, putA, putB, putC]
 refine wpF_p (hb := .inr hB) (i := 7) (oi := ⟨some 18, .move (.tmp 1), 22, "sym.go:67", #[], none⟩) (v := ?_) ?_ ?_
 rotate_left
 ·intro W; go_simp <;> with_reducible rfl
 try simp only [Act.put, putA, putB, putC]
 refine wpF_do (i := 8) (o := ⟨some 19, .call { callee := .value (.func 9), args := #[.tmp 13, .tmp 17, .tmp 18], argTypes := #[27, 22, 22] }, 31, "sym.go:67", #[⟨2, .data⟩, ⟨6, .data⟩, ⟨7, .data⟩], none⟩) (by kernel_rfl) rfl (by rfl) fun K hK => ?_
 go_simp
 refine Calls.mono (HCall.out _ hB) ?_
 rintro e w1 ⟨x, rfl, hO, hCg, hB1⟩
 have HO : Hid (Ow 5 _ x X w1) := hO
 have HCg : Hid _ := hCg
 have HB1 : Hid _ := hB1
 clear hO hCg hB1
 refine hK.out _ _ (.inl rfl) ?_
 clear hK K
 try simp only [Act.put, putA, putB, putC]
 refine wpF_p (hb := .inl (by kernel_rfl)) (i := 9) (oi := ⟨some 10, .move (.tmp 19), 31, "sym.go:67", #[⟨8, .data⟩], none⟩) (v := ?_) ?_ ?_
 rotate_left
 ·intro W; go_simp <;> with_reducible rfl
 try simp only [Act.put, putA, putB, putC]
 refine wpF_p (hb := .inl (by kernel_rfl)) (i := 10) (oi := ⟨some 20, .extract (.tmp 10) 0, 22, "sym.go:67", #[⟨9, .data⟩], none⟩) (v := ?_) ?_ ?_
 rotate_left
 ·intro W; go_simp <;> with_reducible rfl
 try simp only [Act.put, putA, putB, putC]
 refine wpF_p (hb := .inl (by kernel_rfl)) (i := 11) (oi := ⟨some 21, .extract (.tmp 10) 1, 30, "sym.go:67", #[⟨9, .data⟩, ⟨12, .gcOnly .lateStores⟩], none⟩) (v := ?_) ?_ ?_
 rotate_left
 ·intro W; go_simp <;> with_reducible rfl
 try simp only [Act.put, putA, putB, putC]
 refine wpF_p (hb := .inl (by kernel_rfl)) (i := 12) (oi := ⟨some 6, .assign (.tmp 20), 22, "sym.go:67", #[⟨10, .data⟩, ⟨8, .chain⟩, ⟨0, .phase⟩, ⟨1, .phase⟩, ⟨2, .phase⟩, ⟨3, .phase⟩, ⟨4, .phase⟩, ⟨5, .phase⟩, ⟨6, .phase⟩, ⟨7, .phase⟩, ⟨8, .phase⟩, ⟨9, .phase⟩, ⟨10, .phase⟩, ⟨11, .textOnly .lateStores⟩], none⟩) (v := ?_) ?_ ?_
 rotate_left
 ·intro W; go_simp <;> with_reducible rfl
 try simp only [Act.put, putA, putB, putC]
 refine wpF_p (hb := .inl (by kernel_rfl)) (i := 13) (oi := ⟨some 7, .assign (.tmp 21), 30, "sym.go:67", #[⟨11, .data⟩, ⟨12, .chain⟩, ⟨0, .phase⟩, ⟨1, .phase⟩, ⟨2, .phase⟩, ⟨3, .phase⟩, ⟨4, .phase⟩, ⟨5, .phase⟩, ⟨6, .phase⟩, ⟨7, .phase⟩, ⟨8, .phase⟩, ⟨9, .phase⟩, ⟨10, .phase⟩, ⟨11, .phase⟩, ⟨12, .phase⟩], none⟩) (v := ?_) ?_ ?_
 rotate_left
 ·intro W; go_simp <;> with_reducible rfl
 try simp only [Act.put, putA, putB, putC]
 refine wpF_done (by kernel_rfl) ?_
 have cW : Chg (fun i => i = g) w w1 := (Chg.of_below hB).trans HCg.out
 have hB0 := HB.out.kept hB
 have hOx : Ow 5 w.heap.size x X w1 := HO.out.mono hB.size
 have b1 : Below w0.heap.size w0 w1 := Chg.gone HBW0.out cW HBW0.out.size (by rw [HW0.out]; exact HBg.out)
 have hS1 : StP base g ⟨ck, h, ⟨kq, m⟩⟩ w1 := ⟨_, _, _, HB1.out, (HC.out).chg HB.out ne_state cW, (HH.out).chg HB.out ne_state cW, (HK.out).chg HB.out ne_state cW⟩
 have ht1 : Rd w1 vt t := HTt.out.past16 HB.out (stD_no8 _ _ _ _ _ _ _ _ _ _) cW
 obtain ⟨ax, cx, rfl, -⟩ := id hOx.rd
 have HOx : Hid (Ow 5 w.heap.size _ X w1) := hOx
 have HS1 : Hid (StP base g ⟨ck, h, ⟨kq, m⟩⟩ w1) := hS1
 have HT1 : Hid (Rd w1 vt t) := ht1
 have HCW : Hid _ := cW
 have HB01 : Hid _ := b1
 have z1 : base ≤ w1.heap.size := by have := b1.size; have := HW0.out; omega
 have HZ1 : Hid _ := z1
 clear cW hB0 hOx b1 hS1 ht1 HO HCg HB1 HB HC HH HK c1 z1 HCall hB
 rcases HW.out with ⟨hE, hSe⟩ | ⟨hE, hSe⟩
 ·have e6 : (E != 0) = false := by rw [hE]; rfl
  have HSe : Hid _ := hSe
  clear hE hSe HW HE
  go_wp2_with fail
  refine (smixhash_any base g ⟨ck, h, ⟨kq, m⟩⟩ _ X (by have := HLh.out; have := HLt.out; have := HX.out; show h.length + (X).length ≤ _; omega) _ HZ1.out HS1.out HOx.out.rd (HTb.out.kept HB01.out)).mono ?_
  rintro e w2 ⟨rfl, hS2, c2⟩
  have HS2 : Hid (StP base g _ w2) := hS2
  have HC2 : Hid _ := c2
  have HO2 : Hid _ := StP.own HOx.out HS1.out c2
  clear hS2 c2
  go_wp2_with fail
  go_ret2
  rw [HSe.out]
  exact ⟨_, rfl, HO2.out, HS2.out, HCW.out.trans HC2.out⟩
 ·have e6 : (E != 0) = true := by simpa using hE
  have HSe : Hid _ := hSe
  have HEq : Hid ((⟨kq, m⟩ : Cph) = ⟨kq, n⟩) := HE.out hE
  clear hE hSe HW HE
  go_wp2_with fail
  go_ret2
  rw [HSe.out]
  refine ⟨_, rfl, Ow.nil _ _ _, ?_, HCW.out⟩
  have hS2 := HS1.out
  rw [HEq.out] at hS2
  exact hS2

set_option maxRecDepth 100000 in
set_option maxHeartbeats 4000000 in
theorem sopen_any (base g : Nat) (s : Sta) (hn : s.c.n < 18446744073709551616) (vt : Value) (t : List UInt8) (hlt : t.length ≤ 100000) (hlh : s.h.length ≤ 100000) (w : World) (hbg : base ≤ g) (hS : StP base g s w) (ht : Rd w vt t) (w0 : World) (hw0 : w0.heap.size = base) (hbw0 : Below w0.heap.size w0 w) (hTb : Tabs w0) (hP : PlT w0) (hT : KpT w0) :
  Calls Tryd.prog 17 #[.pointer (some ⟨g, 0, none⟩), vt] w fun e w' => ∃ x, e = .returned (.tuple #[x, .int .i64 (opS s t).2.2]) ∧ Ow 5 w.heap.size x (opS s t).2.1 w' ∧ StP base g (opS s t).1 w' ∧ Chg (fun i => i = g) w w' := by
 have hways := opS_ways s t
 have herr := opC_err s.c s.h t
 have hfac := opC_facts s.c s.h t hn
 have hS0 := hS
 obtain ⟨ck, h, ⟨key, n⟩⟩ := s
 obtain ⟨vc, vh, vk, hB, hc, hh, hk⟩ := hS
 replace hB : BlkAt g 45 (stD vc vh vk n) w := hB
 replace hc : Ow 5 base vc ck w := hc
 replace hh : Ow 5 base vh h w := hh
 replace hk : Ow 5 base vk key w := hk
 obtain ⟨ac, cc, rfl, -⟩ := id hc.rd
 obtain ⟨ah, ch, rfl, -⟩ := id hh.rd
 obtain ⟨ak, ck', rfl, -⟩ := id hk.rd
 have c1 : w.cell? ⟨g, 1, none⟩ = some (.slice ah h.length ch) := hB.cell 1
 have z0 : base ≤ w.heap.size := by have := hbw0.size; omega
 replace hways : ((opC ⟨key, n⟩ h t).2.2 = 0 ∧ opS ⟨ck, h, ⟨key, n⟩⟩ t = (⟨ck, s2L (h ++ t), (opC ⟨key, n⟩ h t).1⟩, (opC ⟨key, n⟩ h t).2.1, 0)) ∨ ((opC ⟨key, n⟩ h t).2.2 ≠ 0 ∧ opS ⟨ck, h, ⟨key, n⟩⟩ t = (⟨ck, h, ⟨key, n⟩⟩, [], (opC ⟨key, n⟩ h t).2.2)) := hways
 replace herr : (opC ⟨key, n⟩ h t).2.2 ≠ 0 → (opC ⟨key, n⟩ h t).1 = ⟨key, n⟩ := herr
 replace hfac : (opC ⟨key, n⟩ h t).1.key = key ∧ (opC ⟨key, n⟩ h t).1.n < 18446744073709551616 ∧ (opC ⟨key, n⟩ h t).2.1.length ≤ t.length := hfac
 have HCall : Hid _ := fun W (bW : Below w.heap.size w W) => copen_any ⟨key, n⟩ hn h t (by have : h.length ≤ 100000 := hlh; omega) (by omega) g 2 45 ne_state [.slice ac ck.length cc, .slice ah h.length ch] [] rfl ak ck' (.slice ah h.length ch) vt W (BlkAt.kept hB bW) (hk.kept bW).rd (hh.kept bW).rd (ht.kept bW) (hP.kept (stepB hbw0 bW)) (hT.kept (stepB hbw0 bW))
 generalize opS ⟨ck, h, ⟨key, n⟩⟩ t = S at hways ⊢
 generalize opC ⟨key, n⟩ h t = Q at hways herr hfac HCall
 obtain ⟨⟨kq, m⟩, X, E⟩ := Q
 obtain ⟨hkq, hm, hX⟩ := hfac
 replace hkq : kq = key := hkq
 subst hkq
 have HW : Hid ((E = 0 ∧ S = (⟨ck, s2L (h ++ t), ⟨kq, m⟩⟩, X, 0)) ∨ (E ≠ 0 ∧ S = (⟨ck, h, ⟨kq, n⟩⟩, [], E))) := hways
 have HE : Hid (E ≠ 0 → (⟨kq, m⟩ : Cph) = ⟨kq, n⟩) := herr
 have HX : Hid (X.length ≤ t.length) := hX
 have HB : Hid (BlkAt g 45 _ w) := hB
 have HC : Hid (Ow 5 base _ ck w) := hc
 have HH : Hid (Ow 5 base _ h w) := hh
 have HK : Hid (Ow 5 base _ kq w) := hk
 have HLh : Hid (h.length ≤ 100000) := hlh
 have HLt : Hid (t.length ≤ 100000) := hlt
 have HTt : Hid (Rd w vt t) := ht
 have HTb : Hid (Tabs w0) := hTb
 have HBg : Hid _ := hbg
 have HW0 : Hid _ := hw0
 have HBW0 : Hid (Below w0.heap.size w0 w) := hbw0
 have HZ0 : Hid _ := z0
 clear hB hc hh hk hlh hlt ht hTb hP hT hbg hw0 hbw0 hn hways herr hX hm hS0 z0
 go_enter Tryd.func17, Tryd.ntmps17
 go_wp2_with fail
 have hB : Below w.heap.size w w.drew := (Below.refl _ _).drew
 refine wpF_begin 8 (w0 := w) (by kernel_rfl) ?_
 refine wpF_p (hb := .inr hB) (i := 0) (oi := ⟨some 11, .move (.tmp 0), 36, "sym.go:80", #[], none⟩) (v := ?_) ?_ ?_
 rotate_left
 ·intro W; go_simp <;> with_reducible rfl
 try simp only [Act.put, putA, putB, putC]
 refine wpF_p (hb := .inr hB) (i := 1) (oi := ⟨some 12, .nilCheck (.tmp 11), 0, "sym.go:80", #[⟨0, .data⟩], none⟩) (v := ?_) ?_ ?_
 rotate_left
 ·intro W; go_simp <;> with_reducible rfl
 try simp only [Act.put, putA, putB, putC]
 refine wpF_p (hb := .inr hB) (i := 2) (oi := ⟨some 13, .fieldAddr 45 (.tmp 12) 2, 0, "sym.go:80", #[⟨1, .data⟩], none⟩) (v := ?_) ?_ ?_
 rotate_left
 ·intro W; go_simp <;> with_reducible rfl
 try simp only [Act.put, putA, putB, putC]
 refine wpF_p (hb := .inr hB) (i := 3) (oi := ⟨some 14, .move (.tmp 0), 36, "sym.go:80", #[], none⟩) (v := ?_) ?_ ?_
 rotate_left
 ·intro W; go_simp <;> with_reducible rfl
 try simp only [Act.put, putA, putB, putC]
 refine wpF_p (hb := .inr hB) (i := 4) (oi := ⟨some 15, .nilCheck (.tmp 14), 0, "sym.go:80", #[⟨3, .data⟩], none⟩) (v := ?_) ?_ ?_
 rotate_left
 ·intro W; go_simp <;> with_reducible rfl
 try simp only [Act.put, putA, putB, putC]
 refine wpF_p (hb := .inr hB) (i := 5) (oi := ⟨some 16, .fieldAddr 45 (.tmp 15) 1, 0, "sym.go:80", #[⟨4, .data⟩], none⟩) (v := ?_) ?_ ?_
 rotate_left
 ·intro W; go_simp <;> with_reducible rfl
 try simp only [Act.put, putA, putB, putC]
 refine wpF_t (hb := hB) (i := 6) (oi := ⟨some 17, .load 22 (.tmp 16), 22, "sym.go:80", #[⟨5, .data⟩], none⟩) (v := ?_) ?_ ?_
 rotate_left
 ·intro W hW; have hcW := cellT c1 hW; go_simp <;> with_reducible rfl
 try simp only [Act.put, putA, putB, putC]
 refine wpF_p (hb := .inr hB) (i := 7) (oi := ⟨some 18, .move (.tmp 1), 22, "sym.go:80", #[], none⟩) (v := ?_) ?_ ?_
 rotate_left
 ·intro W; go_simp <;> with_reducible rfl
 try simp only [Act.put, putA, putB, putC]
 refine wpF_do (i := 8) (o := ⟨some 19, .call { callee := .value (.func 11), args := #[.tmp 13, .tmp 17, .tmp 18], argTypes := #[27, 22, 22] }, 31, "sym.go:80", #[⟨2, .data⟩, ⟨6, .data⟩, ⟨7, .data⟩], none⟩) (by kernel_rfl) rfl (by rfl) fun K hK => ?_
 go_simp
 refine Calls.mono (HCall.out _ hB) ?_
 rintro e w1 ⟨x, rfl, hO, hCg, hB1⟩
 have HO : Hid (Ow 5 _ x X w1) := hO
 have HCg : Hid _ := hCg
 have HB1 : Hid _ := hB1
 clear hO hCg hB1
 refine hK.out _ _ (.inl rfl) ?_
 clear hK K
 try simp only [Act.put, putA, putB, putC]
 refine wpF_p (hb := .inl (by kernel_rfl)) (i := 9) (oi := ⟨some 10, .move (.tmp 19), 31, "sym.go:80", #[⟨8, .data⟩], none⟩) (v := ?_) ?_ ?_
 rotate_left
 ·intro W; go_simp <;> with_reducible rfl
 try simp only [Act.put, putA, putB, putC]
 refine wpF_p (hb := .inl (by kernel_rfl)) (i := 10) (oi := ⟨some 20, .extract (.tmp 10) 0, 22, "sym.go:80", #[⟨9, .data⟩], none⟩) (v := ?_) ?_ ?_
 rotate_left
 ·intro W; go_simp <;> with_reducible rfl
 try simp only [Act.put, putA, putB, putC]
 refine wpF_p (hb := .inl (by kernel_rfl)) (i := 11) (oi := ⟨some 21, .extract (.tmp 10) 1, 30, "sym.go:80", #[⟨9, .data⟩, ⟨12, .gcOnly .lateStores⟩], none⟩) (v := ?_) ?_ ?_
 rotate_left
 ·intro W; go_simp <;> with_reducible rfl
 try simp only [Act.put, putA, putB, putC]
 refine wpF_p (hb := .inl (by kernel_rfl)) (i := 12) (oi := ⟨some 6, .assign (.tmp 20), 22, "sym.go:80", #[⟨10, .data⟩, ⟨8, .chain⟩, ⟨0, .phase⟩, ⟨1, .phase⟩, ⟨2, .phase⟩, ⟨3, .phase⟩, ⟨4, .phase⟩, ⟨5, .phase⟩, ⟨6, .phase⟩, ⟨7, .phase⟩, ⟨8, .phase⟩, ⟨9, .phase⟩, ⟨10, .phase⟩, ⟨11, .textOnly .lateStores⟩], none⟩) (v := ?_) ?_ ?_
 rotate_left
 ·intro W; go_simp <;> with_reducible rfl
 try simp only [Act.put, putA, putB, putC]
 refine wpF_p (hb := .inl (by kernel_rfl)) (i := 13) (oi := ⟨some 7, .assign (.tmp 21), 30, "sym.go:80", #[⟨11, .data⟩, ⟨12, .chain⟩, ⟨0, .phase⟩, ⟨1, .phase⟩, ⟨2, .phase⟩, ⟨3, .phase⟩, ⟨4, .phase⟩, ⟨5, .phase⟩, ⟨6, .phase⟩, ⟨7, .phase⟩, ⟨8, .phase⟩, ⟨9, .phase⟩, ⟨10, .phase⟩, ⟨11, .phase⟩, ⟨12, .phase⟩], none⟩) (v := ?_) ?_ ?_
 rotate_left
 ·intro W; go_simp <;> with_reducible rfl
 try simp only [Act.put, putA, putB, putC]
 refine wpF_done (by kernel_rfl) ?_
 have cW : Chg (fun i => i = g) w w1 := (Chg.of_below hB).trans HCg.out
 have hB0 := HB.out.kept hB
 have hOx : Ow 5 w.heap.size x X w1 := HO.out.mono hB.size
 have b1 : Below w0.heap.size w0 w1 := Chg.gone HBW0.out cW HBW0.out.size (by rw [HW0.out]; exact HBg.out)
 have hS1 : StP base g ⟨ck, h, ⟨kq, m⟩⟩ w1 := ⟨_, _, _, HB1.out, (HC.out).chg HB.out ne_state cW, (HH.out).chg HB.out ne_state cW, (HK.out).chg HB.out ne_state cW⟩
 have ht1 : Rd w1 vt t := HTt.out.past16 HB.out (stD_no8 _ _ _ _ _ _ _ _ _ _) cW
 obtain ⟨ax, cx, rfl, -⟩ := id hOx.rd
 have HOx : Hid (Ow 5 w.heap.size _ X w1) := hOx
 have HS1 : Hid (StP base g ⟨ck, h, ⟨kq, m⟩⟩ w1) := hS1
 have HT1 : Hid (Rd w1 vt t) := ht1
 have HCW : Hid _ := cW
 have HB01 : Hid _ := b1
 have z1 : base ≤ w1.heap.size := by have := b1.size; have := HW0.out; omega
 have HZ1 : Hid _ := z1
 clear cW hB0 hOx b1 hS1 ht1 HO HCg HB1 HB HC HH HK c1 z1 HCall hB
 rcases HW.out with ⟨hE, hSe⟩ | ⟨hE, hSe⟩
 ·have e6 : (E != 0) = false := by rw [hE]; rfl
  have HSe : Hid _ := hSe
  clear hE hSe HW HE
  go_wp2_with fail
  refine (smixhash_any base g ⟨ck, h, ⟨kq, m⟩⟩ _ t (by have := HLh.out; have := HLt.out; have := HX.out; show h.length + (t).length ≤ _; omega) _ HZ1.out HS1.out HT1.out (HTb.out.kept HB01.out)).mono ?_
  rintro e w2 ⟨rfl, hS2, c2⟩
  have HS2 : Hid (StP base g _ w2) := hS2
  have HC2 : Hid _ := c2
  have HO2 : Hid _ := StP.own HOx.out HS1.out c2
  clear hS2 c2
  go_wp2_with fail
  go_ret2
  rw [HSe.out]
  exact ⟨_, rfl, HO2.out, HS2.out, HCW.out.trans HC2.out⟩
 ·have e6 : (E != 0) = true := by simpa using hE
  have HSe : Hid _ := hSe
  have HEq : Hid ((⟨kq, m⟩ : Cph) = ⟨kq, n⟩) := HE.out hE
  clear hE hSe HW HE
  go_wp2_with fail
  go_ret2
  rw [HSe.out]
  refine ⟨_, rfl, Ow.nil _ _ _, ?_, HCW.out⟩
  have hS2 := HS1.out
  rw [HEq.out] at hS2
  exact hS2
end Go.Proofs.YtdlmmcilembjgaaDoor

namespace Go.Proofs.YtdlmmcilembjgaaDoor
set_option linter.unusedVariables false

def foL {β : Type} : List Nat → List Nat → (List Nat → β) → β
 | [], acc, k => k acc.reverse
 | x :: r, acc, k => match x with
  | 0 => foL r (0 :: acc) k
  | m + 1 => foL r ((m + 1) :: acc) k
theorem foL_eq {β : Type} (k : List Nat → β) : ∀ (l acc : List Nat), foL l acc k = k (acc.reverse ++ l)
 | [], acc => by simp [foL]
 | x :: r, acc => by
  cases x with
  | zero => simp [foL, foL_eq k r]
  | succ m => simp [foL, foL_eq k r]
def prG {β : Type} : Nat → Nat → List Nat → (List Nat → β) → β
 | 0, i, l, k => k l
 | n + 1, i, l, k => foL ((List.range 25).map (rdL (evS l) i)) [] fun m => prG n (i + 1) m k
theorem prG_all {β : Type} (f : Nat → Nat) (k : List Nat → β) : ∀ (n i : Nat) (l : List Nat), i + n ≤ 24 → (∀ j, evS l j < 18446744073709551616) → (∀ j, j < 25 → rdsF f i j = evS l j) →
  ∃ m, prG n i l k = k m ∧ (∀ j, evS m j < 18446744073709551616) ∧ ∀ j, j < 25 → rdsF f (i + n) j = evS m j
 | 0, i, l, _, hl, h => ⟨l, rfl, hl, h⟩
 | n + 1, i, l, hi, hl, h => by
  have hm : ∀ j, j < 25 → evS ((List.range 25).map (rdL (evS l) i)) j = rdL (evS l) i j := fun j hj => by
   unfold evS
   simp [List.getD, hj]
  have hb : ∀ j, evS ((List.range 25).map (rdL (evS l) i)) j < 18446744073709551616 := fun j => by
   by_cases hj : j < 25
   ·rw [hm j hj]
    exact rdL_lt _ hl i (by omega) j
   ·have e : evS ((List.range 25).map (rdL (evS l) i)) j = 0 := by
     unfold evS
     simp [List.getD, List.getElem?_eq_none (show (List.range 25).length ≤ j by simp; omega)]
    rw [e]
    decide
  have hs := evS_step f i (by omega) l ((List.range 25).map (rdL (evS l) i)) hl (fun j hj => (hm j hj).symm) h
  obtain ⟨m, h1, h2, h3⟩ := prG_all f k n (i + 1) _ (by omega) hb hs
  refine ⟨m, ?_, h2, ?_⟩
  ·show foL _ [] _ = _
   rw [foL_eq]
   exact h1
  ·rw [show i + (n + 1) = i + 1 + n by omega]
   exact h3
end Go.Proofs.YtdlmmcilembjgaaDoor

namespace Go.Proofs.YtdlmmcilembjgaaDoor
set_option linter.unusedSimpArgs false
set_option linter.unusedVariables false

def foB {β : Type} (l : List UInt8) (k : List UInt8 → β) : β := foL (l.map UInt8.toNat) [] fun m => k (m.map UInt8.ofNat)
theorem foB_eq {β : Type} (l : List UInt8) (k : List UInt8 → β) : foB l k = k l := by
 unfold foB
 rw [foL_eq]
 simp [Function.comp_def]
def abG {β : Type} (l : List UInt8) : Nat → Nat → List Nat → (List Nat → β) → β
 | 0, b, S, k => foL ((List.range 25).map fun j => evS S j ^^^ xbl (lasB 136 6 l) 136 j) [] fun m => prG 24 0 m k
 | n + 1, b, S, k => foL ((List.range 25).map fun j => evS S j ^^^ xbl (fun t => l.getD (b * 136 + t) 0) 136 j) [] fun m => prG 24 0 m fun m2 => abG l n (b + 1) m2 k
theorem xor_ltF {a b : Nat} (ha : a < 18446744073709551616) (hb : b < 18446744073709551616) : a ^^^ b < 18446744073709551616 := Nat.xor_lt_two_pow (n := 64) ha hb
theorem blk_all {β : Type} (F : Nat → Nat) (S : List Nat) (blk : Nat → UInt8) (k : List Nat → β) (hS : ∀ j, evS S j < 18446744073709551616) (h : ∀ j, j < 25 → F j = evS S j) :
  ∃ m, (foL ((List.range 25).map fun j => evS S j ^^^ xbl blk 136 j) [] fun m => prG 24 0 m k) = k m ∧ (∀ j, evS m j < 18446744073709551616) ∧ ∀ j, j < 25 → tkF F blk 136 j = evS m j := by
 have hm : ∀ j, j < 25 → evS ((List.range 25).map fun j => evS S j ^^^ xbl blk 136 j) j = evS S j ^^^ xbl blk 136 j := fun j hj => by
  show List.getD _ j 0 = _
  simp [List.getD, hj]
 have hb : ∀ j, evS ((List.range 25).map fun j => evS S j ^^^ xbl blk 136 j) j < 18446744073709551616 := fun j => by
  by_cases hj : j < 25
  ·rw [hm j hj]
   exact xor_ltF (hS j) (xbl_lt _ _ _)
  ·have e : evS ((List.range 25).map fun j => evS S j ^^^ xbl blk 136 j) j = 0 := by
    show List.getD _ j 0 = _
    simp [List.getD, List.getElem?_eq_none (show (List.range 25).length ≤ j by simp; omega)]
   rw [e]
   decide
 obtain ⟨m, h1, h2, h3⟩ := prG_all (fun j => F j ^^^ xbl blk 136 j) k 24 0 _ (Nat.le_refl _) hb (fun j hj => by rw [hm j hj, ← h j hj]; rfl)
 refine ⟨m, ?_, h2, h3⟩
 rw [foL_eq]
 exact h1
theorem abG_all {β : Type} (l : List UInt8) (k : List Nat → β) : ∀ (n b : Nat) (S : List Nat), b + n = l.length / 136 → (∀ j, evS S j < 18446744073709551616) → (∀ j, j < 25 → fuN 136 l b j = evS S j) →
  ∃ m, abG l n b S k = k m ∧ ∀ j, j < 25 → abF 136 6 l j = evS m j
 | 0, b, S, hb, hS, h => by
  obtain ⟨m, h1, h2, h3⟩ := blk_all (fuN 136 l b) S (lasB 136 6 l) k hS h
  refine ⟨m, h1, fun j hj => ?_⟩
  have e : abF 136 6 l = abN 136 (padL 136 6 l) (blN 136 l) := by unfold abF; rw [if_pos (by decide)]; rfl
  rw [e, abs_eq 136 6 l (by decide) j hj, ← hb]
  exact h3 j hj
 | n + 1, b, S, hb, hS, h => by
  obtain ⟨m, h1, h2, h3⟩ := blk_all (fuN 136 l b) S (fun t => l.getD (b * 136 + t) 0) (fun m2 => abG l n (b + 1) m2 k) hS h
  obtain ⟨m2, g1, g2⟩ := abG_all l k n (b + 1) m (by omega) h2 h3
  exact ⟨m2, h1.trans g1, g2⟩
def s2G {β : Type} (l : List UInt8) (k : List UInt8 → β) : β := foB l fun l => abG l (l.length / 136) 0 [] fun m => foB (bsP (evS m) 32) k
theorem s2G_eq {β : Type} (l : List UInt8) (k : List UInt8 → β) : s2G l k = k (s2L l) := by
 unfold s2G
 rw [foB_eq]
 obtain ⟨m, h1, h2⟩ := abG_all l (fun m => foB (bsP (evS m) 32) k) (l.length / 136) 0 [] (by omega) (fun j => by show (0 : Nat) < _; decide) (fun j hj => rfl)
 rw [h1, foB_eq]
 congr 1
 unfold s2L otL bsP
 refine List.map_congr_left fun t ht => ?_
 have ht2 : t < 32 := List.mem_range.1 ht
 unfold smF
 rw [Nat.div_eq_of_lt (by omega), Nat.mod_eq_of_lt (by omega)]
 show byF (evS m) t = byF (abF 136 6 l) t
 unfold byF
 rw [h2 _ (by omega)]
def mcG {β : Type} (key b : List UInt8) (k : List UInt8 → β) : β := s2G (mxP (kyL key) 54 136 ++ b) fun i => s2G (mxP (kyL key) 92 136 ++ i) k
theorem mcG_eq {β : Type} (key b : List UInt8) (k : List UInt8 → β) : mcG key b k = k (mcF key b) := by
 unfold mcG mcF
 rw [s2G_eq, s2G_eq]
def k1G {β : Type} (ck b : List UInt8) (k : List UInt8 → β) : β := mcG ck b fun t => mcG t [1] k
theorem k1G_eq {β : Type} (ck b : List UInt8) (k : List UInt8 → β) : k1G ck b k = k (k1F ck b) := by
 unfold k1G k1F
 rw [mcG_eq, mcG_eq]
def k2G {β : Type} (ck b : List UInt8) (k : List UInt8 → List UInt8 → β) : β := mcG ck b fun t => mcG t [1] fun a => mcG t (a ++ [2]) fun c => k a c
theorem k2G_eq {β : Type} (ck b : List UInt8) (k : List UInt8 → List UInt8 → β) : k2G ck b k = k (k1F ck b) (k2F ck b) := by
 unfold k2G k2F k1F
 rw [mcG_eq, mcG_eq, mcG_eq]
end Go.Proofs.YtdlmmcilembjgaaDoor

namespace Go.Proofs.YtdlmmcilembjgaaDoor
open Go.ChangeShapes Go.WideShapes Go.ChangeAt Go.RowKit
set_option linter.unusedSimpArgs false
set_option linter.unusedVariables false

set_option maxRecDepth 100000 in
set_option maxHeartbeats 2000000 in
theorem sbegin_any (l : List UInt8) (hl : l.length ≤ 1000000) (w : World) (ht : Tabs w) : Calls Tryd.prog 31 #[.string ⟨l.toArray⟩] w fun e w' => ∃ v, e = .returned v ∧ New 5 w v (nwH l) w' := by
 have hsz : (⟨l.toArray⟩ : ByteArray).size = l.length := by simp [ByteArray.size]
 have HT : Hid (Tabs w) := ht
 have HL : Hid (l.length ≤ 1000000) := hl
 have hl2 : (l.length : Int) < 9223372036854775808 := by omega
 by_cases h : 32 < l.length
 ·have hd : decide ((32 : Int) < ((⟨l.toArray⟩ : ByteArray).size : Int)) = true := decide_eq_true (by rw [hsz]; omega)
  have hd2 : decide ((32 : Int) < (l.length : Int)) = true := decide_eq_true (by omega)
  have HH : Hid (nwH l = s2L l) := (if_pos h : nwH l = s2L l)
  clear h ht hl
  go_enter Tryd.func31, Tryd.ntmps31
  go_wp2_with (refine wpList_conv_text rfl _ 9 22 5 rfl Tryd.underlying9 Tryd.underlying22 Tryd.underlying5 l rfl (by have := HL.out; unfold maxLen; omega) ?_)
  intro v1 w1 h1 b1
  have H1 : Hid (Rd w1 v1 l) := h1
  clear h1
  go_wp2_with fail
  refine (sum256_any _ l _ H1.out (HT.out.kept b1)).mono ?_
  rintro e w2 ⟨v2, rfl, hN2⟩
  have HN : Hid (New 5 w v2 (s2L l) w2) := New.from hN2 b1
  clear hN2 b1 H1
  go_wp2_with fail
  go_ret
  refine ⟨_, rfl, ?_⟩
  rw [HH.out]
  exact HN.out
 ·have hd : decide ((32 : Int) < ((⟨l.toArray⟩ : ByteArray).size : Int)) = false := decide_eq_false (by rw [hsz]; omega)
  have hd2 : decide ((32 : Int) < (l.length : Int)) = false := decide_eq_false (by omega)
  have HH : Hid (nwH l = l ++ (List.replicate 32 (0 : UInt8)).drop l.length) := (by
   show nwH l = _
   unfold nwH
   rw [if_neg h, List.drop_replicate] : nwH l = l ++ (List.replicate 32 (0 : UInt8)).drop l.length)
  have HLe : Hid (l.length ≤ (List.replicate 32 (0 : UInt8)).length) := (by rw [List.length_replicate]; omega : l.length ≤ (List.replicate 32 (0 : UInt8)).length)
  clear h ht hl
  go_enter Tryd.func31, Tryd.ntmps31
  go_wp2_with (refine wpList_make_own rfl _ _ 22 rfl Tryd.underlying22 infoU8 32 rfl rfl (by decide) ?_)
  intro w1 hN1
  have HN1 : Hid (New 5 w _ _ w1) := hN1
  clear hN1
  go_wp2_with (refine wpList_copy_text rfl _ _ 22 9 rfl 5 Tryd.underlying22 (by kernel_rfl) _ _ rfl HN1.out l rfl HLe.out (by decide) ?_)
  intro w2 hN2
  have HN : Hid (New 5 w _ _ w2) := hN2
  clear hN2
  go_wp2_with fail
  go_ret
  refine ⟨_, rfl, ?_⟩
  rw [HH.out]
  exact HN.out

theorem build_st2 (a1 a2 : Option Addr) (l1 c1 l2 c2 : Nat) (w : World) : (Instr.build 45 #[(0, .slice a1 l1 c1), (1, .slice a2 l2 c2)]).run Tryd.prog w = .ok (.agg (stD (.slice a1 l1 c1) (.slice a2 l2 c2) (.slice none 0 0) 0).toArray) w := by kernel_rfl

set_option maxRecDepth 100000 in
set_option maxHeartbeats 2000000 in
theorem snew_any (l : List UInt8) (hl : l.length ≤ 1000000) (w : World) (ht : Tabs w) : Calls Tryd.prog 19 #[.string ⟨l.toArray⟩] w fun e w' => ∃ g, e = .returned (.pointer (some ⟨g, 0, none⟩)) ∧ w.heap.size ≤ g ∧ StP w.heap.size g (nwS l) w' ∧ Below w.heap.size w w' := by
 have HT : Hid (Tabs w) := ht
 have HL : Hid (l.length ≤ 1000000) := hl
 have HM : Hid (nwS l = ⟨nwH l, nwH l, ⟨[], 0⟩⟩) := rfl
 generalize nwS l = M at HM ⊢
 clear ht hl
 go_enter Tryd.func19, Tryd.ntmps19
 go_wp2_with fail
 refine (sbegin_any l HL.out _ HT.out).mono ?_
 rintro e w1 ⟨v1, rfl, hN1⟩
 have HN1 : Hid (New 5 w v1 (nwH l) w1) := hN1
 clear hN1
 go_wp2_with fail
 refine (sbegin_any l HL.out _ (HT.out.kept HN1.out.2)).mono ?_
 rintro e w2 ⟨v2, rfl, hN2⟩
 have hO1 : Ow 5 w.heap.size v1 (nwH l) w2 := (Ow.of_new HN1.out).kept hN2.2
 have hO2 : Ow 5 w.heap.size v2 (nwH l) w2 := Ow.mono (Ow.of_new hN2) HN1.out.2.size
 have b2 := stepB HN1.out.2 hN2.2
 generalize nwH l = X at HM hO1 hO2
 obtain ⟨a1, c1, rfl, -⟩ := id hO1.rd
 obtain ⟨a2, c2, rfl, -⟩ := id hO2.rd
 have HO1 : Hid (Ow 5 w.heap.size _ X w2) := hO1
 have HO2 : Hid (Ow 5 w.heap.size _ X w2) := hO2
 have HB2 : Hid _ := b2
 clear hN2 HN1 hO1 hO2 b2
 go_wp2_with (first | refine wpList_buildB rfl 45 #[(0, .tmp 4), (1, .tmp 6)] rfl #[(0, .slice a1 X.length c1), (1, .slice a2 X.length c2)] (by go_simp) (.agg (stD (.slice a1 X.length c1) (.slice a2 X.length c2) (.slice none 0 0) 0).toArray) (build_st2 _ _ _ _ _ _ _) ?_ | (refine wpList_box_blk rfl 45 _ rfl (stD (.slice a1 X.length c1) (.slice a2 X.length c2) (.slice none 0 0) 0) rfl ?_; intro w3 r3 b3 s3))
 go_ret
 refine ⟨_, rfl, HB2.out.size, ?_, stepB HB2.out b3⟩
 rw [HM.out]
 exact ⟨_, _, _, r3, HO1.out.kept b3, HO2.out.kept b3, Ow.nil _ _ _⟩

theorem bodyPost_two {P : Program} {fn : Func} {p q : Tmp} {ty bt bu : TypeId} {g k : Nat} {cs ds : List Value} {d : TypeDesc} {R : Ending → World → Prop} {a : Act} {w : World} (h : fn.results = #[.cell p ty, .cell q ty]) (hd : a.defers = [])
  (hp : a.tmps.getD p undef = .pointer (some ⟨g, 0, none⟩)) (hq : a.tmps.getD q undef = .pointer (some ⟨k, 0, none⟩)) (hb : BlkAt g bt cs w) (hc : BlkAt k bu ds w) (hu : P.underlying ty = some d) (hrow : d.isRow = true) (hi : (P.info? ty).map (·.size) = some cs.length) (hj : (P.info? ty).map (·.size) = some ds.length)
  (hR : R (.returned (.tuple #[.agg cs.toArray, .agg ds.toArray])) w) : bodyPost P fn R .ret a w := by
 refine bodyPost_ret ?_ hd hR
 have hp' : a.tmps[p]?.getD undef = .pointer (some ⟨g, 0, none⟩) := by simpa using hp
 have hq' : a.tmps[q]?.getD undef = .pointer (some ⟨k, 0, none⟩) := by simpa using hq
 have hb' : BlkAt g bt (([] : List Value) ++ cs ++ []) w := by simpa using hb
 have hc' : BlkAt k bu (([] : List Value) ++ ds ++ []) w := by simpa using hc
 have hl := run_loadVar_mid (P := P) w g 0 ty cs d hb'.range hu hrow hi
 have hm := run_loadVar_mid (P := P) w k 0 ty ds d hc'.range hu hrow hj
 simp [results, h, hp', hq', asAddr, hl, hm]

set_option maxRecDepth 100000 in
set_option maxHeartbeats 2000000 in
theorem ssplit_any (base g : Nat) (s : Sta) (w : World) (hS : StP base g s w) (ht : Tabs w) :
  Calls Tryd.prog 18 #[.pointer (some ⟨g, 0, none⟩)] w fun e w' => ∃ x y, e = .returned (.tuple #[.agg (ckD x 0).toArray, .agg (ckD y 0).toArray]) ∧ Ow 5 w.heap.size x (spS s).1.key w' ∧ Ow 5 w.heap.size y (spS s).2.key w' ∧ Below w.heap.size w w' := by
 obtain ⟨ck, h, ⟨key, n⟩⟩ := s
 obtain ⟨vc, vh, vk, hB, hc, -, -⟩ := hS
 replace hB : BlkAt g 45 (stD vc vh vk n) w := hB
 replace hc : Ow 5 base vc ck w := hc
 obtain ⟨ac, cc, rfl, -⟩ := id hc.rd
 have HC : Hid (Ow 5 base _ ck w) := hc
 have HT : Hid (Tabs w) := ht
 have HS1 : Hid ((spS ⟨ck, h, ⟨key, n⟩⟩).1.key = k1F ck []) := rfl
 have HS2 : Hid ((spS ⟨ck, h, ⟨key, n⟩⟩).2.key = k2F ck []) := rfl
 generalize (spS ⟨ck, h, ⟨key, n⟩⟩).1.key = P1 at HS1 ⊢
 generalize (spS ⟨ck, h, ⟨key, n⟩⟩).2.key = P2 at HS2 ⊢
 clear hc ht
 go_enter Tryd.func18, Tryd.ntmps18
 go_wp2_with (refine wpList_alloc_blk rfl 27 rfl (ckD (.slice none 0 0) 0) (alloc_kc _) ?_)
 intro w1 rz b1 s1
 go_wp2_with (refine wpList_alloc_blk rfl 27 rfl (ckD (.slice none 0 0) 0) (alloc_kc _) ?_)
 intro w2 ry b2 s2
 replace rz := rz.kept b2
 have hbw := stepB b1 b2
 have n1 : w.heap.size < w1.heap.size := by have := s1.out; omega
 have c0 : w2.cell? ⟨g, 0, none⟩ = some (.slice ac ck.length cc) := (hB.kept hbw).cell 0
 have z1 := b1.size
 clear b1 b2 s1 s2 hB
 go_wp2_with fail
 refine (two_own _ _ ck [] (by decide) _ (HC.out.kept hbw).rd (Rd.nil _) (HT.out.kept hbw)).mono ?_
 rintro e w3 ⟨v1, v2, rfl, hO1, hO2, b3⟩
 rw [← HS1.out] at hO1
 rw [← HS2.out] at hO2
 replace hO1 := hO1.mono hbw.size
 replace hO2 := hO2.mono hbw.size
 obtain ⟨a1, d1, rfl, -⟩ := id hO1.rd
 obtain ⟨a2, d2, rfl, -⟩ := id hO2.rd
 replace ry := ry.kept b3
 replace rz := rz.kept b3
 have hb3 := stepB hbw b3
 have HO1 : Hid (Ow 5 w.heap.size _ P1 w3) := hO1
 have HO2 : Hid (Ow 5 w.heap.size _ P2 w3) := hO2
 clear c0 hbw b3 hO1 hO2
 go_wp2_with (first | refine wpList_buildB rfl 27 #[(0, .tmp 18)] rfl #[(0, .slice a1 P1.length d1)] (by go_simp) (.agg #[.slice a1 P1.length d1, .int .u64 0]) (build_kc _ _ _ _) ?_ | refine wpList_buildB rfl 27 #[(0, .tmp 20)] rfl #[(0, .slice a2 P2.length d2)] (by go_simp) (.agg #[.slice a2 P2.length d2, .int .u64 0]) (build_kc _ _ _ _) ?_ | (refine wpList_store_part rfl 27 _ _ rfl rfl (ckD (.slice a1 P1.length d1) 0) rfl [] (ckD (.slice none 0 0) 0) [] (ckD (.slice a1 P1.length d1) 0) rz (wholeS _) (wholeS _) rfl rfl (info_kc (.slice none 0 0) 0) (ckD_all _ _ _ _) ?_; intro w6 r6 hw6; have ry6 := ry.wrote hw6 (by omega)) | (refine wpList_store_part rfl 27 _ _ rfl rfl (ckD (.slice a2 P2.length d2) 0) rfl [] (ckD (.slice none 0 0) 0) [] (ckD (.slice a2 P2.length d2) 0) ry6 (wholeS _) (wholeS _) rfl rfl (info_kc (.slice none 0 0) 0) (ckD_all _ _ _ _) ?_; intro w7 r7 hw7))
 have r67 := r6.wrote hw7 (by omega)
 refine bodyPost_two rfl rfl rfl rfl r67 r7 Tryd.underlying27 rfl (info_kc _ _) (info_kc _ _) ?_
 exact ⟨_, _, rfl, (HO1.out.chg rz ne_cipher (Chg.of_wrote hw6)).chg ry6 ne_cipher (Chg.of_wrote hw7), (HO2.out.chg rz ne_cipher (Chg.of_wrote hw6)).chg ry6 ne_cipher (Chg.of_wrote hw7), hw7.below _ _ (by omega) (hw6.below _ _ (Nat.le_refl _) hb3)⟩
end Go.Proofs.YtdlmmcilembjgaaDoor

namespace Go.Proofs.YtdlmmcilembjgaaDoor
set_option linter.unusedVariables false

def nm16 : List UInt8 := [97, 32, 110, 97, 109, 101] ++ List.replicate 26 0
def ck16a : List UInt8 := [184, 94, 74, 34, 109, 184, 57, 134, 144, 93, 83, 35, 144, 153, 51, 181, 179, 159, 157, 125, 244, 61, 189, 55, 231, 12, 14, 93, 116, 116, 167, 52]
def ck16b : List UInt8 := [243, 143, 174, 233, 4, 87, 25, 40, 97, 111, 103, 82, 227, 134, 36, 9, 220, 240, 246, 224, 88, 117, 19, 107, 38, 147, 114, 76, 130, 25, 219, 219]
def ky16a : List UInt8 := [104, 74, 91, 226, 42, 131, 177, 125, 4, 87, 186, 235, 71, 205, 234, 27, 100, 210, 0, 139, 28, 91, 16, 140, 51, 106, 2, 103, 2, 242, 33, 216]
def ky16b : List UInt8 := [229, 57, 82, 146, 52, 161, 150, 159, 240, 40, 69, 211, 230, 137, 198, 254, 214, 127, 166, 234, 133, 249, 135, 107, 203, 17, 121, 227, 214, 64, 137, 125]
theorem ck16a_on : k1G nm16 [1] (fun c => decide (c = ck16a)) = true := by decide +kernel
theorem ck16b_on : k1G ck16a [] (fun c => decide (c = ck16b)) = true := by decide +kernel
theorem ky16_on : k2G ck16b [] (fun c d => decide (c = ky16a ∧ d = ky16b)) = true := by decide +kernel
theorem ck16a_is : k1F nm16 [1] = ck16a := by
 have h := ck16a_on
 rw [k1G_eq] at h
 exact of_decide_eq_true h
theorem ck16b_is : k1F ck16a [] = ck16b := by
 have h := ck16b_on
 rw [k1G_eq] at h
 exact of_decide_eq_true h
theorem ky16_is : k1F ck16b [] = ky16a ∧ k2F ck16b [] = ky16b := by
 have h := ky16_on
 rw [k2G_eq] at h
 exact of_decide_eq_true h
theorem rk16_first : (rkC ⟨ky16a, 0⟩).key.getD 0 0 ≠ ky16b.getD 0 0 := by decide +kernel
theorem rk16_apart : (rkC ⟨ky16a, 0⟩).key ≠ ky16b := fun e => rk16_first (by rw [e])
end Go.Proofs.YtdlmmcilembjgaaDoor

namespace Go.Proofs.YtdlmmcilembjgaaDoor
open Go.ChangeShapes Go.WideShapes Go.ChangeAt Go.RowKit
set_option linter.unusedSimpArgs false
set_option linter.unusedVariables false

theorem StP.mono {base base' g : Nat} {s : Sta} {w : World} (h : StP base g s w) (hb : base' ≤ base) : StP base' g s w := by
 obtain ⟨vc, vh, vk, h1, h2, h3, h4⟩ := h
 exact ⟨vc, vh, vk, h1, h2.mono hb, h3.mono hb, h4.mono hb⟩
theorem StP.cellH {base g : Nat} {s : Sta} {w : World} (h : StP base g s w) : ∃ a c, w.cell? ⟨g, 1, none⟩ = some (.slice a s.h.length c) := by
 obtain ⟨vc, vh, vk, h1, h2, h3, h4⟩ := h
 obtain ⟨a, c, rfl, -⟩ := h3.rd
 exact ⟨a, c, h1.cell 1⟩
theorem Rd.marked16 {w : World} {e : TypeId} {fr : Nat × Nat} (l : List UInt8) {cs : Array Value} {n b : Nat} (h : cs = (l.map bv).toArray) (hn : n = l.length) (hb : b = w.heap.size) (hm : l.length ≤ maxLen) : Rd (w.alloc (.cells cs e fr)) (.slice (some ⟨b, 0, none⟩) n n) l := by
 subst h hn hb
 refine ⟨_, _, rfl, Nat.le_refl _, hm, (fun h => by cases h), .inr ⟨_, 0, rfl, fun i hi => ?_⟩⟩
 have hh : (w.alloc (.cells (l.map bv).toArray e fr)).heap[w.heap.size]? = some (.cells (l.map bv).toArray e fr) := by
  show (w.heap.push _)[w.heap.size]? = _
  simp
 unfold World.cell?
 rw [hh]
 simp [hi, bv]
def naL : List UInt8 := [97, 32, 110, 97, 109, 101]
def txL : List UInt8 := [116, 101, 120, 116]
theorem na_ck : (nwS naL).ck = nm16 := by decide +kernel
def sa1 : Sta := mkS (nwS naL) [1]
def sX : List UInt8 := seL sa1.c.key (ncL 0) sa1.h txL
def sa2 : Sta := ⟨sa1.ck, s2L (sa1.h ++ sX), ⟨sa1.c.key, 1⟩⟩
def sa3 : Sta := mbS sa2 []
theorem sa1_se : seS sa1 txL = (sa2, sX, 0) := (opS_seS sa1 txL (mcF_length _ _) (by show (0 : Nat) ≠ _; decide)).1
theorem sa1_op : opS sa1 sX = (sa2, txL, 0) := (opS_seS sa1 txL (mcF_length _ _) (by show (0 : Nat) ≠ _; decide)).2
theorem sX_len : sX.length = 20 := by
 show (seL _ _ _ _).length = 20
 rw [seL_len]
 rfl
theorem sa1_ck : sa1.ck = ck16a := by
 show k1F (nwS naL).ck [1] = _
 rw [na_ck]
 exact ck16a_is
theorem sa3_ck : sa3.ck = ck16b := by
 show k1F sa1.ck [] = _
 rw [sa1_ck]
 exact ck16b_is
theorem sp_1 : (spS sa3).1.key = ky16a := by
 show k1F sa3.ck [] = _
 rw [sa3_ck]
 exact ky16_is.1
theorem sp_2 : (spS sa3).2.key = ky16b := by
 show k2F sa3.ck [] = _
 rw [sa3_ck]
 exact ky16_is.2
theorem sp_apart : ((rkC ⟨(spS sa3).1.key, 0⟩).key == (spS sa3).2.key) = false := by
 rw [sp_1, sp_2]
 simpa using rk16_apart
theorem sp_len1 : (rkC ⟨(spS sa3).1.key, 0⟩).key.length = 32 := rkC_len _ (mcF_length _ _)
theorem sp_len2 : (spS sa3).2.key.length = 32 := mcF_length _ _
theorem sound1 : Sound sa1 := (Sound.nw naL).mx [1]
theorem sound2 : Sound sa2 := ⟨mcF_length _ _, s2L_length _, .inr (mcF_length _ _), by show 1 < _; decide⟩

set_option maxRecDepth 100000 in
set_option maxHeartbeats 4000000 in
theorem awake_any (w : World) (ht : Tabs w) (hp : PlT w) (hk : KpT w) : Calls Tryd.prog 6 #[] w fun e w' => e = .returned (.bool true) ∧ Below w.heap.size w w' := by
 have HT : Hid (Tabs w) := ht
 have HP : Hid (PlT w) := hp
 have HK : Hid (KpT w) := hk
 have kc := fun (w : World) (C : Array Value) (n c : Nat) => Lib.run_convert_bytes_const (P := Tryd.prog) w 22 5 C n c Tryd.underlying22 Tryd.underlying5
 clear ht hp hk
 go_enter Tryd.func6, Tryd.ntmps6
 go_wp2_with fail
 refine (snew_any naL (by decide) _ HT.out).mono ?_
 rintro e w1 ⟨g1, rfl, hg1, hS1, b1⟩
 have HS1 : Hid (StP w.heap.size g1 (nwS naL) w1) := hS1
 clear hS1
 go_wp2_with fail
 refine (snew_any naL (by decide) _ (HT.out.kept b1)).mono ?_
 rintro e w2 ⟨g2, rfl, hg2, hS2, b2⟩
 have HN : Hid (g1 ≠ g2) := (by have := HS1.out.lt; omega : g1 ≠ g2)
 have HS2 : Hid (StP w.heap.size g2 (nwS naL) w2) := hS2.mono b1.size
 have HG1 : Hid (w.heap.size ≤ g1) := hg1
 have HG2 : Hid (w.heap.size ≤ g2) := Nat.le_trans b1.size hg2
 replace HS1 : Hid (StP w.heap.size g1 (nwS naL) w2) := HS1.out.kept b2
 have HB : Hid (Below w.heap.size w w2) := stepB b1 b2
 obtain ⟨ah, ch, hc1⟩ := HS1.out.cellH
 rw [show (nwS naL).h.length = 32 from nwH_length naL] at hc1
 clear hS2 hg1 hg2 b1 b2
 have HB3 : Hid (Below w.heap.size w (w2.alloc (.cells #[.int .u8 1] 5))) := stepB HB.out (growB _)
 go_wp2_with fail
 refine (smixkey_any w.heap.size g1 (nwS naL) _ [1] (by decide) _ HB3.out.size (HS1.out.kept (growB _)) (Rd.lit1 1 rfl) (HT.out.kept HB3.out)).mono ?_
 rintro e w3 ⟨rfl, hS3, c3⟩
 have HB4 : Hid (Below w.heap.size w w3) := Chg.gone HB3.out c3 HB3.out.size HG1.out
 replace HS2 : Hid (StP w.heap.size g2 (nwS naL) w3) := (HS2.out.kept (growB _)).other (HS1.out.kept (growB _)) c3 HN.out.symm
 replace HS1 : Hid (StP w.heap.size g1 sa1 w3) := hS3
 clear hS3 c3 HB3 HB hc1
 have HB5 : Hid (Below w.heap.size w (w3.alloc (.cells #[.int .u8 1] 5))) := stepB HB4.out (growB _)
 go_wp2_with fail
 refine (smixkey_any w.heap.size g2 (nwS naL) _ [1] (by decide) _ HB5.out.size (HS2.out.kept (growB _)) (Rd.lit1 1 rfl) (HT.out.kept HB5.out)).mono ?_
 rintro e w4 ⟨rfl, hS4, c4⟩
 have HB6 : Hid (Below w.heap.size w w4) := Chg.gone HB5.out c4 HB5.out.size HG2.out
 replace HS1 : Hid (StP w.heap.size g1 sa1 w4) := (HS1.out.kept (growB _)).other (HS2.out.kept (growB _)) c4 HN.out
 replace HS2 : Hid (StP w.heap.size g2 sa1 w4) := hS4
 clear hS4 c4 HB4 HB5
 have b5 : Below w4.heap.size w4 (w4.alloc (.cells #[.int .u8 116, .int .u8 101, .int .u8 120, .int .u8 116] 5 (4, 5))) := growB _
 have hT5 : Rd (w4.alloc (.cells #[.int .u8 116, .int .u8 101, .int .u8 120, .int .u8 116] 5 (4, 5))) (.slice (some ⟨w4.heap.size, 0, none⟩) 4 4) txL := Rd.marked16 txL rfl rfl rfl (by decide)
 generalize hw5 : w4.alloc (.cells #[.int .u8 116, .int .u8 101, .int .u8 120, .int .u8 116] 5 (4, 5)) = w5 at b5 hT5
 have HW5 : Hid _ := hw5
 clear hw5
 go_wp2_with fail
 rw [HW5.out]
 replace HS1 : Hid (StP w.heap.size g1 sa1 w5) := HS1.out.kept b5
 replace HS2 : Hid (StP w.heap.size g2 sa1 w5) := HS2.out.kept b5
 have HB7 : Hid (Below w.heap.size w w5) := stepB HB6.out b5
 refine (sseal_any w.heap.size g1 sa1 sound1.n _ txL (by decide) (by rw [sound1.h]; decide) _ HG1.out HS1.out hT5 w rfl HB7.out HT.out HP.out HK.out).mono ?_
 rw [sa1_se]
 rintro e w6 ⟨x, rfl, hX, hS6, c6⟩
 replace hX : Ow 5 w5.heap.size x sX w6 := hX
 replace HS2 : Hid (StP w.heap.size g2 sa1 w6) := HS2.out.other HS1.out c6 HN.out.symm
 replace HS1 : Hid (StP w.heap.size g1 sa2 w6) := hS6
 have HB8 : Hid (Below w.heap.size w w6) := Chg.gone HB7.out c6 HB7.out.size HG1.out
 obtain ⟨ax, cx, rfl, hcx, hmx, -, -⟩ := id hX.rd
 rw [sX_len] at hX hcx ⊢
 unfold maxLen at hmx
 have HX : Hid (Ow 5 _ (.slice ax 20 cx) sX w6) := hX
 clear hX hS6 c6 HB7 b5 hT5 HW5 HB6
 go_wp2_with fail
 refine (sopen_any w.heap.size g2 sa1 sound1.n _ sX (by rw [sX_len]; decide) (by rw [sound1.h]; decide) _ HG2.out HS2.out HX.out.rd w rfl HB8.out HT.out HP.out HK.out).mono ?_
 rw [sa1_op]
 rintro e w7 ⟨y, rfl, hY, hS7, c7⟩
 replace hY : Ow 5 w6.heap.size y txL w7 := hY
 replace HS1 : Hid (StP w.heap.size g1 sa2 w7) := HS1.out.other HS2.out c7 HN.out
 have HB9 : Hid (Below w.heap.size w w7) := Chg.gone HB8.out c7 HB8.out.size HG2.out
 have HY : Hid (Ow 5 _ y txL w7) := hY
 clear hY hS7 c7 HB8 HX HS2
 go_wp2_with fail
 refine (smixboth_any w.heap.size g1 sa2 _ [] (by decide) (by rw [sound2.h]; decide) _ HB9.out.size HG1.out HS1.out (Rd.nil _) w rfl HB9.out HT.out).mono ?_
 rintro e w8 ⟨rfl, hS8, c8⟩
 replace HY : Hid (Ow 5 _ y txL w8) := StP.own HY.out HS1.out c8
 have HB10 : Hid (Below w.heap.size w w8) := Chg.gone HB9.out c8 HB9.out.size HG1.out
 replace HS1 : Hid (StP w.heap.size g1 sa3 w8) := hS8
 clear hS8 c8 HB9
 go_wp2_with fail
 refine (ssplit_any w.heap.size g1 sa3 _ HS1.out (HT.out.kept HB10.out)).mono ?_
 have h1 := sp_len1
 have h2 := sp_len2
 have h3 := sp_apart
 have h4 : (spS sa3).1.key.length = 32 := mcF_length _ _
 generalize (spS sa3).1.key = K1 at h1 h3 h4 ⊢
 generalize (spS sa3).2.key = K2 at h2 h3 ⊢
 rintro e w9 ⟨vp, vq, rfl, hp, hq, b9⟩
 obtain ⟨ap, cp, rfl, -⟩ := id hp.rd
 obtain ⟨aq, cq, rfl, -⟩ := id hq.rd
 rw [h4] at hp ⊢
 rw [h2] at hq ⊢
 have HPk : Hid (Ow 5 _ (.slice ap 32 cp) K1 w9) := hp
 have HQk : Hid (Ow 5 _ (.slice aq 32 cq) K2 w9) := hq
 have H1 : Hid _ := h1
 have H3 : Hid _ := h3
 have H4 : Hid (K1.length = 32) := h4
 replace HY : Hid (Ow 5 _ y txL w9) := HY.out.kept b9
 have HB11 : Hid (Below w.heap.size w w9) := stepB HB10.out b9
 clear hp hq h1 h2 h3 h4 HB10 b9 HS1
 go_wp2_with (refine wpList_alloc_blk rfl 27 rfl (ckD (.slice none 0 0) 0) (alloc_kc _) ?_)
 intro wa rp ba sa
 go_wp2_with (refine wpList_alloc_blk rfl 27 rfl (ckD (.slice none 0 0) 0) (alloc_kc _) ?_)
 intro wb rq bb sb
 replace rp := rp.kept bb
 have na : w9.heap.size < wa.heap.size := by have := sa.out; omega
 have bab := stepB ba bb
 clear sa sb
 go_wp2_with (first | (refine wpList_store_part rfl 27 _ _ rfl rfl (ckD (.slice ap 32 cp) 0) rfl [] (ckD (.slice none 0 0) 0) [] (ckD (.slice ap 32 cp) 0) rp (wholeS _) (wholeS _) rfl rfl (info_kc (.slice none 0 0) 0) (ckD_all _ _ _ _) ?_; intro wc rc hwc; have rq6 := rq.wrote hwc (by omega)) | (refine wpList_store_part rfl 27 _ _ rfl rfl (ckD (.slice aq 32 cq) 0) rfl [] (ckD (.slice none 0 0) 0) [] (ckD (.slice aq 32 cq) 0) rq6 (wholeS _) (wholeS _) rfl rfl (info_kc (.slice none 0 0) 0) (ckD_all _ _ _ _) ?_; intro wd rd hwd))
 have rcd := rc.wrote hwd (by omega)
 have cw := fun {v l b} (h : Ow 5 b v l w9) => ((h.kept bab).chg rp ne_cipher (Chg.of_wrote hwc)).chg rq6 ne_cipher (Chg.of_wrote hwd)
 have HP2 : Hid (Ow 5 _ (.slice ap 32 cp) K1 wd) := cw HPk.out
 have HQ2 : Hid (Ow 5 _ (.slice aq 32 cq) K2 wd) := cw HQk.out
 have HY2 : Hid (Ow 5 _ y txL wd) := cw HY.out
 have bd : Below w.heap.size w wd := hwd.below _ _ (by have := HB11.out.size; omega) (hwc.below _ _ HB11.out.size (stepB HB11.out bab))
 have HBd : Hid (Below w.heap.size w wd) := bd
 have HRp : Hid (BlkAt w9.heap.size 27 _ wd) := rcd
 have HRq : Hid (BlkAt wa.heap.size 27 _ wd) := rd
 have HNa : Hid (w9.heap.size ≠ wa.heap.size) := (by omega : w9.heap.size ≠ wa.heap.size)
 have HGp : Hid (w.heap.size ≤ w9.heap.size) := HB11.out.size
 clear cw rc hwc rq6 rd hwd rcd bd rp rq bab ba bb na HPk HQk HY HB11
 refine (crekey_any ⟨K1, 0⟩ w9.heap.size 0 27 ne_cipher [] [] rfl ap cp _ (by have := HRp.out; rw [← H4.out] at this; exact this) (by have := HP2.out.rd; rw [← H4.out] at this; exact this) (HP.out.kept HBd.out) (HK.out.kept HBd.out)).mono ?_
 rintro e we ⟨rfl, xp, hxp, ce, hBe⟩
 have hq2 := HQ2.out.chg HRp.out ne_cipher ce
 have hy2 := HY2.out.chg HRp.out ne_cipher ce
 have hRq := HRq.out.chg ce HNa.out.symm
 have hbe : Below w.heap.size w we := Chg.gone HBd.out ce HBd.out.size HGp.out
 obtain ⟨axp, cxp, rfl, -⟩ := id hxp
 have hL := H1.out
 have hne := H3.out
 generalize (rkC ⟨K1, 0⟩).key = K3 at hL hne hxp hBe
 rw [hL] at hxp hBe
 have hBe' : BlkAt w9.heap.size 27 (ckD (.slice axp 32 cxp) 0) we := hBe
 have d0 : we.cell? ⟨w9.heap.size, 0, none⟩ = some (.slice axp 32 cxp) := hBe'.cell 0
 have d1 : we.cell? ⟨wa.heap.size, 0, none⟩ = some (.slice aq 32 cq) := hRq.cell 0
 obtain ⟨ay, cy, rfl, -⟩ := id hy2.rd
 have cv1 := convS hxp
 have cv2 := convS hq2.rd
 have cv3 := convS hy2.rd
 have HBe : Hid _ := hbe
 clear hBe hBe' hRq hbe hxp hq2 hy2 HP2 HQ2 HY2 HRp HRq HBd ce hL H1 H3 H4
 go_wp2_with fail
 go_ret
 exact ⟨by simp [txL], HBe.out⟩
def StQ (base g : Nat) (S : Nat → Prop) (s : Sta) (w : World) : Prop := ∃ vc vh vk, BlkAt g 45 (stD vc vh vk s.c.n) w ∧ Ow 5 base vc s.ck w ∧ Ow 5 base vh s.h w ∧ Ow 5 base vk s.c.key w ∧ (∀ x, vc.ownBlock = some x → ¬ S x) ∧ (∀ x, vh.ownBlock = some x → ¬ S x) ∧ (∀ x, vk.ownBlock = some x → ¬ S x)
theorem StP.q {base g : Nat} {S : Nat → Prop} {s : Sta} {w : World} (h : StP base g s w) (hS : ∀ x, S x → w.heap.size ≤ x) : StQ base g S s w := by
 obtain ⟨vc, vh, vk, h1, h2, h3, h4⟩ := h
 refine ⟨vc, vh, vk, h1, h2, h3, h4, fun x e q => ?_, fun x e q => ?_, fun x e q => ?_⟩
 ·have := hS x q; have := (h2.lt e).2; omega
 ·have := hS x q; have := (h3.lt e).2; omega
 ·have := hS x q; have := (h4.lt e).2; omega
theorem StQ.p {base g : Nat} {S : Nat → Prop} {s : Sta} {w : World} (h : StQ base g S s w) : StP base g s w := by
 obtain ⟨vc, vh, vk, h1, h2, h3, h4, -⟩ := h
 exact ⟨vc, vh, vk, h1, h2, h3, h4⟩
theorem StQ.kept {base g : Nat} {S : Nat → Prop} {s : Sta} {w w' : World} (h : StQ base g S s w) (hb : Below w.heap.size w w') : StQ base g S s w' := by
 obtain ⟨vc, vh, vk, h1, h2, h3, h4, h5⟩ := h
 exact ⟨vc, vh, vk, h1.kept hb, h2.kept hb, h3.kept hb, h4.kept hb, h5⟩
theorem StQ.other {base g g2 : Nat} {S : Nat → Prop} {s s2 : Sta} {w w' : World} (h : StQ base g S s w) (h2 : StP base g2 s2 w) (c : Chg (fun b => b = g2) w w') (hne : g ≠ g2) : StQ base g S s w' := by
 obtain ⟨vc, vh, vk, q1, q2, q3, q4, q5⟩ := h
 obtain ⟨uc, uh, uk, p1, -⟩ := h2
 exact ⟨vc, vh, vk, q1.chg c hne, q2.chg p1 ne_state c, q3.chg p1 ne_state c, q4.chg p1 ne_state c, q5⟩
theorem StQ.row {base g : Nat} {S : Nat → Prop} {s : Sta} {w w' : World} (h : StQ base g S s w) (c : Chg S w w') (hg : ¬ S g) : StP base g s w' := by
 obtain ⟨vc, vh, vk, q1, q2, q3, q4, q5, q6, q7⟩ := h
 exact ⟨vc, vh, vk, q1.chg c hg, own_chg q2 c q5, own_chg q3 c q6, own_chg q4 c q7⟩
theorem StP.not_row {base base2 g : Nat} {s : Sta} {w : World} {v : Value} {l : List UInt8} (h : StP base g s w) (ho : Ow 5 base2 v l w) : ¬ v.ownBlock = some g := by
 obtain ⟨vc, vh, vk, h1, -⟩ := h
 exact ho.not_blk h1 ne_state
theorem StP.rdH {base g : Nat} {s : Sta} {w : World} (h : StP base g s w) : ∃ v, w.cell? ⟨g, 1, none⟩ = some v ∧ Rd w v s.h := by
 obtain ⟨vc, vh, vk, h1, h2, h3, h4⟩ := h
 exact ⟨vh, h1.cell 1, h3.rd⟩

set_option maxRecDepth 100000 in
set_option maxHeartbeats 2000000 in
theorem smixkey_q (base g : Nat) (S : Nat → Prop) (s : Sta) (vb : Value) (b : List UInt8) (hl : b.length ≤ 100000) (w : World) (hlt : ∀ x, S x → x < w.heap.size) (hbase : base ≤ w.heap.size) (hS : StQ base g S s w) (hb : Rd w vb b) (ht : Tabs w) :
  Calls Tryd.prog 13 #[.pointer (some ⟨g, 0, none⟩), vb] w fun e w' => e = .returned (.tuple #[]) ∧ StQ base g S (mkS s b) w' ∧ Chg (fun i => i = g) w w' := by
 obtain ⟨ck, h, ⟨key, n⟩⟩ := s
 obtain ⟨vc, vh, vk, hB, hc, hh, hk, -, hq, -⟩ := hS
 replace hB : BlkAt g 45 (stD vc vh vk n) w := hB
 replace hc : Ow 5 base vc ck w := hc
 replace hh : Ow 5 base vh h w := hh
 replace hk : Ow 5 base vk key w := hk
 obtain ⟨ac, cc, rfl, -⟩ := id hc.rd
 obtain ⟨ah, ch, rfl, -⟩ := id hh.rd
 obtain ⟨ak, ck', rfl, -⟩ := id hk.rd
 have c0 : w.cell? ⟨g, 0, none⟩ = some (.slice ac ck.length cc) := hB.cell 0
 have HB : Hid (BlkAt g 45 _ w) := hB
 have HC : Hid (Ow 5 base _ ck w) := hc
 have HH : Hid (Ow 5 base _ h w) := hh
 have HBb : Hid (Rd w _ b) := hb
 have HT : Hid (Tabs w) := ht
 have HL : Hid (b.length ≤ 100000) := hl
 have HBs : Hid _ := hbase
 have HLT : Hid (∀ x, S x → x < w.heap.size) := hlt
 have HQ : Hid (∀ x, (Value.slice ah h.length ch).ownBlock = some x → ¬ S x) := hq
 have HM : Hid (mkS ⟨ck, h, ⟨key, n⟩⟩ b = ⟨k1F ck b, h, ⟨k2F ck b, 0⟩⟩) := rfl
 generalize mkS ⟨ck, h, ⟨key, n⟩⟩ b = M at HM ⊢
 clear hl hB hc hh hk hb ht hbase hlt hq
 go_enter Tryd.func13, Tryd.ntmps13
 go_wp2_with fail
 refine (two_own _ _ ck b HL.out _ HC.out.rd HBb.out HT.out).mono ?_
 rintro e w2 ⟨v1, v2, rfl, hO1, hO2, b2⟩
 have HA1 : Hid (∀ x, v1.ownBlock = some x → ¬ S x) := fun x e q => by have := (hO1.lt e).1; have := HLT.out x q; omega
 have HA2 : Hid (∀ x, v2.ownBlock = some x → ¬ S x) := fun x e q => by have := (hO2.lt e).1; have := HLT.out x q; omega
 replace hO1 := hO1.mono HBs.out
 replace hO2 := hO2.mono HBs.out
 generalize k1F ck b = X at HM hO1
 generalize k2F ck b = Y at HM hO2
 obtain ⟨a1, d1, rfl, -⟩ := id hO1.rd
 obtain ⟨a2, d2, rfl, -⟩ := id hO2.rd
 have hB2 := HB.out.kept b2
 have c1 : w2.cell? ⟨g, 0, none⟩ = some (.slice ac ck.length cc) := hB2.cell 0
 have f1 : w2.frozen? ⟨g, 0, none⟩ = false := hB2.free _
 have r3 : BlkAt g 45 (stD (.slice a1 X.length d1) (.slice ah h.length ch) (.slice ak key.length ck') n) (w2.setCell ⟨g, 0, none⟩ (.slice a1 X.length d1)) := BlkAt.set hB2 0 (.slice a1 X.length d1)
 have HB2 : Hid (BlkAt g 45 _ w2) := hB2
 have HBw : Hid (Below w.heap.size w w2) := b2
 have HO1 : Hid (Ow 5 base _ X w2) := hO1
 have HO2 : Hid (Ow 5 base _ Y w2) := hO2
 clear b2 hB2 hO1 hO2 c0
 go_wp2_with (first | refine wpList_buildB rfl 27 #[(0, .tmp 20)] rfl #[(0, .slice a2 Y.length d2)] (by go_simp) (.agg #[.slice a2 Y.length d2, .int .u64 0]) (build_kc _ _ _ _) ?_ | (refine wpList_store_part rfl 27 _ _ rfl rfl (ckD (.slice a2 Y.length d2) 0) rfl [.slice a1 X.length d1, .slice ah h.length ch] (ckD (.slice ak key.length ck') n) [] (stD (.slice a1 X.length d1) (.slice ah h.length ch) (.slice a2 Y.length d2) 0) r3 (part_st _ _ _ _) (part_st _ _ _ _) rfl rfl (info_kc (.slice ak key.length ck') n) (ckD_all _ _ _ _) ?_; intro w7 r7 hw7))
 go_end0
 have hw : Wrote g w2 (w2.setCell ⟨g, 0, none⟩ (.slice a1 X.length d1)) := Wrote.set _ _ _ _
 have cw := (Chg.of_wrote hw).trans (Chg.of_wrote hw7)
 refine ⟨rfl, ?_, (Chg.of_below HBw.out).trans cw⟩
 rw [HM.out]
 exact ⟨_, _, _, r7, HO1.out.chg HB2.out ne_state cw, (HH.out.kept HBw.out).chg HB2.out ne_state cw, HO2.out.chg HB2.out ne_state cw, HA1.out, HQ.out, HA2.out⟩
theorem wp_make_new {P : Program} {e : TypeId} {w : World} {o : Oper} {a : Act} {K : Act → World → Prop} {Q : Exit → Act → World → Prop} (l c : Operand) (t : TypeId) (ho : o.op = .makeSlice t l c) (hu : P.underlying t = some (.slice e))
  (hinfo : (P.info? e).map (fun i => (i.zero, i.size, i.bytes)) = some (some (.int .u8 0), 1, 1)) (n : Nat) (hl : a.eval l = .int .i64 (n : Int)) (hc : a.eval c = .int .i64 (n : Int)) (hn : n ≤ 1000000)
  (h : ∀ w', New e w (.slice (some ⟨w.heap.size, 0, none⟩) n n) (List.replicate n 0) w' → K (a.put o.dst (.slice (some ⟨w.heap.size, 0, none⟩) n n)) w') : o.wp P a w K Q := by
 obtain ⟨i, hi, hz0, hz1, hz2⟩ := info_parts hinfo
 obtain ⟨w', hrun, r1, r2⟩ := run_make_full (P := P) w w.heap.size t e i _ 1 hu hi hz0 hz1 .i64 .i64 n (by rw [hz2]; omega) (by unfold maxLen; omega) (Nat.le_refl _)
 unfold Oper.wp
 simp [execOp, ho, hl, hc, hrun, Result.andThen]
 rw [Nat.mul_one] at r1
 exact h w' (New.made r1 r2)

set_option maxRecDepth 100000 in
set_option maxHeartbeats 2000000 in
theorem nonce16_any (x : Nat) (hx : x < 18446744073709551616) (w : World) : Calls Tryd.prog 24 #[.int .u64 (x : Int)] w fun e w' => ∃ v, e = .returned v ∧ New 5 w v (ncL x) w' := by
 have HX : Hid _ := hx
 have HL : Hid ((List.replicate 4 (0 : UInt8)).length + (st8 x).length ≤ 140737488355328) := by show _ ≤ _; rw [List.length_replicate, st8_length]; omega
 clear hx
 go_enter Tryd.func24, Tryd.ntmps24
 go_wp2_with fail
 have hB : Below w.heap.size w w.drew := (Below.refl _ _).drew
 refine wpB_begin (Below.refl w.heap.size w) (by kernel_rfl) ?_
 refine wpB_t (hb := hB) (i := 1) (oi := ⟨some 4, .move (.tmp 0), 23, "ref.go:18", #[], none⟩) (v := ?_) ?_ ?_
 rotate_left
 ·intro W hW; go_simp <;> with_reducible rfl
 try simp only [Act.put, putA, putB, putC]
 refine wpB_fork (i := 0) (j := 2) (oi := ⟨some 3, .makeSlice 22 (.const (.int .i64 4)) (.const (.int .i64 4)), 22, "ref.go:18", #[], none⟩) (oj := ⟨some 5, .call { callee := .value (.func 37), args := #[.tmp 4, .const (.int .i64 8)], argTypes := #[23, 3] }, 22, "ref.go:18", #[⟨1, .data⟩], none⟩) (by kernel_rfl) rfl rfl (by rfl) (by rfl) (fun K hK => ?_) (fun K hK => ?_)
 ·refine wp_make_new _ _ 22 rfl Tryd.underlying22 infoU8 4 rfl rfl (by decide) ?_
  intro wm hNm
  have hM := hNm.rd
  replace hB := stepB hB hNm.2
  try replace hS := Rd.kept hS hNm.2
  refine hK.out _ _ hB ?_
  clear hK K
  try simp only [Act.put, putA, putB, putC]
  refine wpB_do (i := 2) (o := ⟨some 5, .call { callee := .value (.func 37), args := #[.tmp 4, .const (.int .i64 8)], argTypes := #[23, 3] }, 22, "ref.go:18", #[⟨1, .data⟩], none⟩) (by kernel_rfl) rfl (by rfl) fun K hK => ?_
  go_simp
  refine (refstore_k x HX.out 8 8 (by decide) (.inr (.inl ⟨by decide, by decide, rfl⟩)) _).mono ?_
  rintro e ws ⟨vs, rfl, hNs⟩
  have hS : Rd ws vs (st8 x) := hNs.rd
  replace hB := stepB hB hNs.2
  try replace hM := Rd.kept hM hNs.2
  refine hK.out _ _ hB ?_
  clear hK K
  try simp only [Act.put, putA, putB, putC]
  refine wpB_do (i := 3) (o := ⟨some 6, .call { callee := .value (.func 35), args := #[.tmp 3, .tmp 5], argTypes := #[22, 22] }, 22, "ref.go:18", #[⟨0, .data⟩, ⟨2, .data⟩, ⟨2, .chain⟩], none⟩) (by kernel_rfl) rfl (by rfl) fun K hK => ?_
  go_simp
  refine (joinR_any _ _ (List.replicate 4 0) (st8 x) HL.out _ hM hS).mono ?_
  rintro e wj ⟨vj, rfl, hNj⟩
  have HJ : Hid (New 5 w vj (ncL x) wj) := hNj.from hB
  replace hB := stepB hB hNj.2
  refine hK.out _ _ hB ?_
  clear hK K
  try simp only [Act.put, putA, putB, putC]
  refine wpB_t (hb := hB) (i := 4) (oi := ⟨some 2, .assign (.tmp 6), 22, "ref.go:18", #[⟨3, .data⟩, ⟨3, .chain⟩, ⟨0, .phase⟩, ⟨1, .phase⟩, ⟨2, .phase⟩, ⟨3, .phase⟩], none⟩) (v := ?_) ?_ ?_
  rotate_left
  ·intro W hW; go_simp <;> with_reducible rfl
  try simp only [Act.put, putA, putB, putC]
  refine wpB_done (by kernel_rfl) ?_
  go_wp2
  go_ret
  exact ⟨vj, rfl, HJ.out⟩
 ·go_simp
  refine (refstore_k x HX.out 8 8 (by decide) (.inr (.inl ⟨by decide, by decide, rfl⟩)) _).mono ?_
  rintro e ws ⟨vs, rfl, hNs⟩
  have hS : Rd ws vs (st8 x) := hNs.rd
  replace hB := stepB hB hNs.2
  try replace hM := Rd.kept hM hNs.2
  refine hK.out _ _ hB ?_
  clear hK K
  try simp only [Act.put, putA, putB, putC]
  refine wpB_do (i := 0) (o := ⟨some 3, .makeSlice 22 (.const (.int .i64 4)) (.const (.int .i64 4)), 22, "ref.go:18", #[], none⟩) (by kernel_rfl) rfl (by rfl) fun K hK => ?_
  refine wp_make_new _ _ 22 rfl Tryd.underlying22 infoU8 4 rfl rfl (by decide) ?_
  intro wm hNm
  have hM := hNm.rd
  replace hB := stepB hB hNm.2
  try replace hS := Rd.kept hS hNm.2
  refine hK.out _ _ hB ?_
  clear hK K
  try simp only [Act.put, putA, putB, putC]
  refine wpB_do (i := 3) (o := ⟨some 6, .call { callee := .value (.func 35), args := #[.tmp 3, .tmp 5], argTypes := #[22, 22] }, 22, "ref.go:18", #[⟨0, .data⟩, ⟨2, .data⟩, ⟨2, .chain⟩], none⟩) (by kernel_rfl) rfl (by rfl) fun K hK => ?_
  go_simp
  refine (joinR_any _ _ (List.replicate 4 0) (st8 x) HL.out _ hM hS).mono ?_
  rintro e wj ⟨vj, rfl, hNj⟩
  have HJ : Hid (New 5 w vj (ncL x) wj) := hNj.from hB
  replace hB := stepB hB hNj.2
  refine hK.out _ _ hB ?_
  clear hK K
  try simp only [Act.put, putA, putB, putC]
  refine wpB_t (hb := hB) (i := 4) (oi := ⟨some 2, .assign (.tmp 6), 22, "ref.go:18", #[⟨3, .data⟩, ⟨3, .chain⟩, ⟨0, .phase⟩, ⟨1, .phase⟩, ⟨2, .phase⟩, ⟨3, .phase⟩], none⟩) (v := ?_) ?_ ?_
  rotate_left
  ·intro W hW; go_simp <;> with_reducible rfl
  try simp only [Act.put, putA, putB, putC]
  refine wpB_done (by kernel_rfl) ?_
  go_wp2
  go_ret
  exact ⟨vj, rfl, HJ.out⟩

def ciC (vk : Value) (n : Nat) : List Value := [vk, .int .u64 (n : Int)]
theorem alloc_ci (w : World) : (Instr.alloc 28 true (.tuple #[])).run Tryd.prog w = .ok (.pointer (some ⟨w.heap.size, 0, none⟩)) (w.alloc (.cells (ciC (.slice none 0 0) 0).toArray 28)) := by kernel_rfl
theorem info_ci (vk : Value) (n : Nat) : (Tryd.prog.info? 28).map (·.size) = some (ciC vk n).length := by
 show _ = some 2
 kernel_rfl
theorem ciC_all (a : Option Addr) (l c n : Nat) : (ciC (.slice a l c) n).toArray.all (·.oneCell') = true := by kernel_rfl
theorem build_ci (a : Option Addr) (l c : Nat) (x : Int) (w : World) : (Instr.build 28 #[(0, .slice a l c), (1, .int .u64 x)]).run Tryd.prog w = .ok (.agg #[.slice a l c, .int .u64 x]) w := by kernel_rfl
theorem whole16 (l : List Value) : l = [] ++ l ++ [] := by simp
theorem cell16 {w W : World} {p : Addr} {v : Value} (h : w.cell? p = some v) (hb : Below w.drew.heap.size w.drew W) : W.cell? p = some v := by
 have h2 : w.drew.cell? p = some v := h
 rw [hb.cell (World.block_lt_of_cell? _ _ h2)]
 exact h2
theorem bodyPost_blk3 {P : Program} {fn : Func} {p q r : Tmp} {ty bt : TypeId} {g : Nat} {cs : List Value} {d : TypeDesc} {v u : Value} {R : Ending → World → Prop} {a : Act} {w : World} (h : fn.results = #[.cell p ty, .tmp q, .tmp r]) (hd : a.defers = [])
  (hp : a.tmps.getD p undef = .pointer (some ⟨g, 0, none⟩)) (hq : a.tmps.getD q undef = v) (hr : a.tmps.getD r undef = u) (hb : BlkAt g bt cs w) (hu : P.underlying ty = some d) (hrow : d.isRow = true) (hi : (P.info? ty).map (·.size) = some cs.length)
  (hR : R (.returned (.tuple #[.agg cs.toArray, v, u])) w) : bodyPost P fn R .ret a w := by
 refine bodyPost_ret ?_ hd hR
 have hp' : a.tmps[p]?.getD undef = .pointer (some ⟨g, 0, none⟩) := by simpa using hp
 have hq' : a.tmps[q]?.getD undef = v := by simpa using hq
 have hr' : a.tmps[r]?.getD undef = u := by simpa using hr
 have hb' : BlkAt g bt (([] : List Value) ++ cs ++ []) w := by simpa using hb
 have hl := run_loadVar_mid (P := P) w g 0 ty cs d hb'.range hu hrow hi
 simp [results, h, hp', hq', hr', asAddr, hl]
theorem seC_cases (c : Cph) (ad t : List UInt8) : (c.key.length = 0 ∧ seC c ad t = (c, t, 0)) ∨ (c.key.length ≠ 0 ∧ c.key.length ≠ 32 ∧ seC c ad t = (c, [], 1)) ∨ (c.key.length = 32 ∧ c.n = 18446744073709551615 ∧ seC c ad t = (c, [], 31)) ∨ (c.key.length = 32 ∧ c.n ≠ 18446744073709551615 ∧ seC c ad t = (⟨c.key, c.n + 1⟩, seL c.key (ncL c.n) ad t, 0)) := by
 unfold seC
 by_cases h0 : c.key.length = 0
 ·exact .inl ⟨h0, if_pos h0⟩
 ·by_cases h1 : c.key.length = 32
  ·by_cases h2 : c.n = 18446744073709551615
   ·exact .inr (.inr (.inl ⟨h1, h2, by rw [if_neg h0, if_neg (by omega), if_pos h2]⟩))
   ·exact .inr (.inr (.inr ⟨h1, h2, by rw [if_neg h0, if_neg (by omega), if_neg h2]⟩))
  ·exact .inr (.inl ⟨h0, h1, by rw [if_neg h0, if_pos h1]⟩)

set_option maxRecDepth 100000 in
set_option maxHeartbeats 4000000 in
theorem seal16_any (c : Cph) (vk va vt : Value) (ad t : List UInt8) (A : Array Value) (hA : A = (ciC vk c.n).toArray) (hn : c.n < 18446744073709551616) (hla : ad.length ≤ 3000000) (hlt : t.length ≤ 3000000) (w : World) (hk : Rd w vk c.key) (ha : Rd w va ad) (ht : Rd w vt t) :
  Calls Tryd.prog 10 #[.agg A, va, vt] w fun e w' => ∃ x, e = .returned (.tuple #[.agg (ciC vk (seC c ad t).1.n).toArray, x, .int .i64 (seC c ad t).2.2]) ∧ Rd w' x (seC c ad t).2.1 ∧ Below w.heap.size w w' := by
 have hcase := seC_cases c ad t
 obtain ⟨key, n⟩ := c
 obtain ⟨ak, ck, rfl, hk2, hk3, -, -⟩ := id hk
 unfold maxLen at hk3
 have HK : Hid (Rd w (.slice ak key.length ck) key) := hk
 have HA : Hid (Rd w va ad) := ha
 have HT : Hid (Rd w vt t) := ht
 have HLa : Hid _ := hla
 have HLt : Hid _ := hlt
 have hnI : (n : Int) < 18446744073709551616 := by have : n < 18446744073709551616 := hn; omega
 generalize seC ⟨key, n⟩ ad t = R at hcase ⊢
 replace hA : A = (ciC (.slice ak key.length ck) n).toArray := hA
 have HN : Hid (n < 18446744073709551616) := hn
 clear hk ha ht hla hlt hn
 go_enter Tryd.func10, Tryd.ntmps10
 go_wp2_with (refine wpList_box_blk rfl 28 _ rfl (ciC (.slice ak key.length ck) n) (by rw [← hA]; rfl) ?_)
 intro w1 r1 b1 s1
 go_wp2_with (refine wpList_alloc_blk rfl 28 rfl (ciC (.slice none 0 0) 0) (alloc_ci _) ?_)
 intro w2 rz b2 s2
 replace r1 := r1.kept b2
 have hbw := stepB b1 b2
 have n1 : w.heap.size < w1.heap.size := by have := s1.out; omega
 have c0 : w2.cell? ⟨w.heap.size, 0, none⟩ = some (.slice ak key.length ck) := r1.cell 0
 have c1 : w2.cell? ⟨w.heap.size, 1, none⟩ = some (.int .u64 (n : Int)) := r1.cell 1
 have z1 := b1.size
 clear b1 b2 s1 s2 hA
 rcases hcase with ⟨h1, rfl⟩ | ⟨h1, h2, rfl⟩ | ⟨h1, h2, rfl⟩ | ⟨h1, h2, rfl⟩
 ·have e1 : ((key.length : Int) == 0) = true := by rw [show key.length = 0 from h1]; rfl
  clear h1
  go_wp2_with (first | refine wpList_load_part rfl 28 _ rfl rfl [] (ciC (.slice ak key.length ck) n) [] r1 (whole16 _) rfl Tryd.underlying28 rfl (info_ci _ _) ?_ | (refine wpList_store_part rfl 28 _ _ rfl rfl (ciC (.slice ak key.length ck) n) rfl [] (ciC (.slice none 0 0) 0) [] (ciC (.slice ak key.length ck) n) rz (whole16 _) (whole16 _) rfl rfl (info_ci (.slice none 0 0) 0) (ciC_all _ _ _ _) ?_; intro w7 r7 hw7))
  refine bodyPost_blk3 rfl rfl rfl rfl rfl r7 Tryd.underlying28 rfl (info_ci _ _) ?_
  exact ⟨_, rfl, Rd.kept HT.out (hw7.below _ _ z1 hbw), hw7.below _ _ z1 hbw⟩
 ·have h1' : key.length ≠ 0 := h1
  have h2' : key.length ≠ 32 := h2
  have e1 : ((key.length : Int) == 0) = false := by rw [beq_eq_false_iff_ne]; omega
  have e2 : ((key.length : Int) != 32) = true := by simp; omega
  clear h1 h2 h1' h2'
  go_wp2_with (first | refine wpList_load_part rfl 28 _ rfl rfl [] (ciC (.slice ak key.length ck) n) [] r1 (whole16 _) rfl Tryd.underlying28 rfl (info_ci _ _) ?_ | (refine wpList_store_part rfl 28 _ _ rfl rfl (ciC (.slice ak key.length ck) n) rfl [] (ciC (.slice none 0 0) 0) [] (ciC (.slice ak key.length ck) n) rz (whole16 _) (whole16 _) rfl rfl (info_ci (.slice none 0 0) 0) (ciC_all _ _ _ _) ?_; intro w7 r7 hw7))
  refine bodyPost_blk3 rfl rfl rfl rfl rfl r7 Tryd.underlying28 rfl (info_ci _ _) ?_
  exact ⟨_, rfl, Rd.nil _, hw7.below _ _ z1 hbw⟩
 ·have h1' : key.length = 32 := h1
  have h2' : n = 18446744073709551615 := h2
  have e1 : ((key.length : Int) == 0) = false := by rw [beq_eq_false_iff_ne]; omega
  have e2 : ((key.length : Int) != 32) = false := by simp; omega
  have e3 : ((n : Int) == 18446744073709551615) = true := by simp; omega
  clear h1 h2 h1' h2'
  go_wp2_with (first | refine wpList_load_part rfl 28 _ rfl rfl [] (ciC (.slice ak key.length ck) n) [] r1 (whole16 _) rfl Tryd.underlying28 rfl (info_ci _ _) ?_ | (refine wpList_store_part rfl 28 _ _ rfl rfl (ciC (.slice ak key.length ck) n) rfl [] (ciC (.slice none 0 0) 0) [] (ciC (.slice ak key.length ck) n) rz (whole16 _) (whole16 _) rfl rfl (info_ci (.slice none 0 0) 0) (ciC_all _ _ _ _) ?_; intro w7 r7 hw7))
  refine bodyPost_blk3 rfl rfl rfl rfl rfl r7 Tryd.underlying28 rfl (info_ci _ _) ?_
  exact ⟨_, rfl, Rd.nil _, hw7.below _ _ z1 hbw⟩
 ·have h1' : key.length = 32 := h1
  have h2' : n ≠ 18446744073709551615 := h2
  have e1 : ((key.length : Int) == 0) = false := by rw [beq_eq_false_iff_ne]; omega
  have e2 : ((key.length : Int) != 32) = false := by simp; omega
  have e3 : ((n : Int) == 18446744073709551615) = false := by simp; omega
  have HK32 : Hid (key.length = 32) := h1'
  obtain ⟨m, hm⟩ : ∃ m : Nat, m = n + 1 := ⟨_, rfl⟩
  have HMm : Hid (m = n + 1) := hm
  have e4 : IntKind.u64.wrap ((n : Int) + 1) = (m : Int) := by rw [IntKind.wrap_u64]; have := HN.out; omega
  have e5 : ((n : Int) + 1) % 18446744073709551616 = (m : Int) := by have := HN.out; omega
  have hbd := hbw.drew
  clear h1 h2 h1' h2' hm
  go_wp2_with fail
  refine wpG_begin (by kernel_rfl) ?_
  refine wpG_t (i := 0) (oi := ⟨some 27, .fieldAddr 28 (.tmp 3) 0, 0, "ref.go:31", #[], none⟩) (v := ?_) ?_ ?_
  rotate_left
  ·intro W hW; go_simp <;> with_reducible rfl
  try simp only [Act.put, putA, putB, putC]
  refine wpG_t (i := 1) (oi := ⟨some 28, .load 22 (.tmp 27), 22, "ref.go:31", #[⟨0, .data⟩], none⟩) (v := ?_) ?_ ?_
  rotate_left
  ·intro W hW; have hcW := cell16 c0 hW; go_simp <;> with_reducible rfl
  try simp only [Act.put, putA, putB, putC]
  refine wpG_t (i := 2) (oi := ⟨some 29, .fieldAddr 28 (.tmp 3) 1, 0, "ref.go:31", #[], none⟩) (v := ?_) ?_ ?_
  rotate_left
  ·intro W hW; go_simp <;> with_reducible rfl
  try simp only [Act.put, putA, putB, putC]
  refine wpG_t (i := 3) (oi := ⟨some 30, .load 23 (.tmp 29), 23, "ref.go:31", #[⟨2, .data⟩], none⟩) (v := ?_) ?_ ?_
  rotate_left
  ·intro W hW; have hcW := cell16 c1 hW; go_simp <;> with_reducible rfl
  try simp only [Act.put, putA, putB, putC]
  refine wpG_t (i := 5) (oi := ⟨some 32, .move (.tmp 1), 22, "ref.go:31", #[], none⟩) (v := ?_) ?_ ?_
  rotate_left
  ·intro W hW; go_simp <;> with_reducible rfl
  try simp only [Act.put, putA, putB, putC]
  refine wpG_t (i := 6) (oi := ⟨some 33, .move (.tmp 2), 22, "ref.go:31", #[], none⟩) (v := ?_) ?_ ?_
  rotate_left
  ·intro W hW; go_simp <;> with_reducible rfl
  try simp only [Act.put, putA, putB, putC]
  refine wpG_do (i := 4) (o := ⟨some 31, .call { callee := .value (.func 24), args := #[.tmp 30], argTypes := #[23] }, 22, "ref.go:31", #[⟨3, .data⟩], none⟩) (by kernel_rfl) rfl (by rfl) fun K hK => ?_
  go_simp
  refine (nonce16_any n HN.out _).mono ?_
  rintro e w3 ⟨v3, rfl, hN3⟩
  obtain ⟨a3, k3, rfl, -⟩ := id hN3.rd
  refine hK.out _ _ hN3.2 ?_
  clear hK K
  try simp only [Act.put, putA, putB, putC]
  refine wpG_do (i := 7) (o := ⟨some 34, .call { callee := .value (.func 23), args := #[.tmp 28, .tmp 31, .tmp 32, .tmp 33], argTypes := #[22, 22, 22, 22] }, 31, "ref.go:31", #[⟨1, .data⟩, ⟨4, .data⟩, ⟨5, .data⟩, ⟨6, .data⟩, ⟨4, .chain⟩], none⟩) (by kernel_rfl) rfl (by rfl) fun K hK => ?_
  go_simp
  refine (sealR_any _ _ _ _ key (ncL n) ad t HK32.out (ncL_length n) HLa.out HLt.out _ (Rd.kept HK.out (stepB hbd hN3.2)) hN3.rd (Rd.kept HA.out (stepB hbd hN3.2)) (Rd.kept HT.out (stepB hbd hN3.2))).mono ?_
  rintro e w4 ⟨v4, rfl, hN4⟩
  refine hK.out _ _ hN4.2 ?_
  clear hK K
  try simp only [Act.put, putA, putB, putC]
  refine wpG_t (i := 8) (oi := ⟨some 26, .move (.tmp 34), 31, "ref.go:31", #[⟨7, .data⟩], none⟩) (v := ?_) ?_ ?_
  rotate_left
  ·intro W hW; go_simp <;> with_reducible rfl
  try simp only [Act.put, putA, putB, putC]
  refine wpG_t (i := 9) (oi := ⟨some 35, .extract (.tmp 26) 0, 22, "ref.go:31", #[⟨8, .data⟩], none⟩) (v := ?_) ?_ ?_
  rotate_left
  ·intro W hW; go_simp <;> with_reducible rfl
  try simp only [Act.put, putA, putB, putC]
  refine wpG_t (i := 10) (oi := ⟨some 36, .extract (.tmp 26) 1, 30, "ref.go:31", #[⟨8, .data⟩, ⟨11, .gcOnly .lateStores⟩], none⟩) (v := ?_) ?_ ?_
  rotate_left
  ·intro W hW; go_simp <;> with_reducible rfl
  try simp only [Act.put, putA, putB, putC]
  refine wpG_t (i := 11) (oi := ⟨some 9, .assign (.tmp 35), 22, "ref.go:31", #[⟨9, .data⟩, ⟨7, .chain⟩, ⟨0, .phase⟩, ⟨1, .phase⟩, ⟨2, .phase⟩, ⟨3, .phase⟩, ⟨4, .phase⟩, ⟨5, .phase⟩, ⟨6, .phase⟩, ⟨7, .phase⟩, ⟨8, .phase⟩, ⟨9, .phase⟩, ⟨10, .textOnly .lateStores⟩], none⟩) (v := ?_) ?_ ?_
  rotate_left
  ·intro W hW; go_simp <;> with_reducible rfl
  try simp only [Act.put, putA, putB, putC]
  refine wpG_t (i := 12) (oi := ⟨some 10, .assign (.tmp 36), 30, "ref.go:31", #[⟨10, .data⟩, ⟨11, .chain⟩, ⟨0, .phase⟩, ⟨1, .phase⟩, ⟨2, .phase⟩, ⟨3, .phase⟩, ⟨4, .phase⟩, ⟨5, .phase⟩, ⟨6, .phase⟩, ⟨7, .phase⟩, ⟨8, .phase⟩, ⟨9, .phase⟩, ⟨10, .phase⟩, ⟨11, .phase⟩], none⟩) (v := ?_) ?_ ?_
  rotate_left
  ·intro W hW; go_simp <;> with_reducible rfl
  try simp only [Act.put, putA, putB, putC]
  refine wpG_done (by kernel_rfl) ?_
  have b4 := stepB hN3.2 hN4.2
  have r4 := (r1.drew.kept b4)
  have rz4 := (rz.drew.kept b4)
  have c0' : w4.cell? ⟨w.heap.size, 0, none⟩ = some (.slice ak key.length ck) := r4.cell 0
  have c1' : w4.cell? ⟨w.heap.size, 1, none⟩ = some (.int .u64 (n : Int)) := r4.cell 1
  have HX : Hid (w4.ownsRow w3.heap.size 5 1 v4 (seL key (ncL n) ad t).length ((seL key (ncL n) ad t).map bv)) := hN4.1
  have HZ3 : Hid (w1.heap.size < w3.heap.size) := Nat.lt_of_lt_of_le rz.lt hN3.2.size
  have HB4 : Hid _ := stepB hbd b4
  clear hN3 hN4 b4 c0 c1 r1 rz
  go_wp2_with (first | refine wpList_buildB rfl 28 #[(0, .tmp 38), (1, .tmp 41)] rfl _ (by go_simp; rfl) _ (build_ci _ _ _ _ _) ?_ | (refine wpList_store_part rfl 28 _ _ rfl rfl (ciC (.slice ak key.length ck) m) rfl [] (ciC (.slice none 0 0) 0) [] (ciC (.slice ak key.length ck) m) rz4 (whole16 _) (whole16 _) rfl rfl (info_ci (.slice none 0 0) 0) (ciC_all _ _ _ _) ?_; intro w7 r7 hw7))
  refine bodyPost_blk3 rfl rfl rfl rfl rfl r7 Tryd.underlying28 rfl (info_ci _ _) ?_
  refine ⟨_, by rw [HMm.out]; rfl, ?_, hw7.below _ _ z1 HB4.out⟩
  exact Rd.of_row (own_chg HX.out (Chg.of_wrote hw7) (fun g e1 e2 => by have := (HX.out.lt g e1).1; have := HZ3.out; omega))
theorem openR_q (vk vn va vb : Value) (k n a s : List UInt8) (hk32 : k.length = 32) (hn12 : n.length = 12) (hla : a.length ≤ 3000000) (hls : s.length ≤ 3000000) (w : World) (hk : Rd w vk k) (hn : Rd w vn n) (ha : Rd w va a) (hb : Rd w vb s) :
  Calls Tryd.prog 27 #[vk, vn, va, vb] w fun e w' => ∃ r, e = .returned (.tuple #[r, .int .i64 (opQ k n a s).2]) ∧ New 5 w r (opQ k n a s).1 w' := by
 unfold opQ
 by_cases h16 : s.length < 16
 ·rw [if_pos h16]
  refine (openR_short vk vn va vb k n s hk32 hn12 h16 w hk hn hb).mono ?_
  rintro e w' ⟨rfl, rfl⟩
  exact ⟨_, rfl, World.ownsRow_nil _ _ _ _, Below.refl _ _⟩
 ·rw [if_neg h16]
  have e1 : s.take (s.length - 16) ++ s.drop (s.length - 16) = s := List.take_append_drop ..
  have l1 : (s.take (s.length - 16)).length ≤ 3000000 := by rw [List.length_take]; omega
  have l2 : (s.drop (s.length - 16)).length = 16 := by rw [List.length_drop]; omega
  generalize s.take (s.length - 16) = c at e1 l1
  generalize s.drop (s.length - 16) = t at e1 l2
  subst e1
  refine (openR_any vk vn va vb k n a c t hk32 hn12 hla l1 l2 w hk hn ha hb).mono ?_
  rintro e w' ⟨h1, h2⟩
  by_cases ht : tgL k n a c = t
  ·rw [if_pos ht]
   exact h1 ht
  ·rw [if_neg ht]
   obtain ⟨rfl, hb⟩ := h2 ht
   exact ⟨_, rfl, World.ownsRow_nil _ _ _ _, hb⟩
theorem opC_cases (c : Cph) (ad t : List UInt8) : (c.key.length = 0 ∧ opC c ad t = (c, t, 0)) ∨ (c.key.length ≠ 0 ∧ c.key.length ≠ 32 ∧ opC c ad t = (c, [], 1)) ∨ (c.key.length = 32 ∧ c.n = 18446744073709551615 ∧ opC c ad t = (c, [], 31)) ∨ (c.key.length = 32 ∧ c.n ≠ 18446744073709551615 ∧ opC c ad t = if (opQ c.key (ncL c.n) ad t).2 = 0 then (⟨c.key, c.n + 1⟩, (opQ c.key (ncL c.n) ad t).1, 0) else (c, [], (opQ c.key (ncL c.n) ad t).2)) := by
 unfold opC
 by_cases h0 : c.key.length = 0
 ·exact .inl ⟨h0, if_pos h0⟩
 ·by_cases h1 : c.key.length = 32
  ·by_cases h2 : c.n = 18446744073709551615
   ·exact .inr (.inr (.inl ⟨h1, h2, by rw [if_neg h0, if_neg (by omega), if_pos h2]⟩))
   ·exact .inr (.inr (.inr ⟨h1, h2, by rw [if_neg h0, if_neg (by omega), if_neg h2]⟩))
  ·exact .inr (.inl ⟨h0, h1, by rw [if_neg h0, if_pos h1]⟩)

set_option maxRecDepth 100000 in
set_option maxHeartbeats 4000000 in
theorem open16_any (c : Cph) (vk va vt : Value) (ad t : List UInt8) (A : Array Value) (hA : A = (ciC vk c.n).toArray) (hn : c.n < 18446744073709551616) (hla : ad.length ≤ 3000000) (hlt : t.length ≤ 3000000) (w : World) (hk : Rd w vk c.key) (ha : Rd w va ad) (ht : Rd w vt t) :
  Calls Tryd.prog 12 #[.agg A, va, vt] w fun e w' => ∃ x, e = .returned (.tuple #[.agg (ciC vk (opC c ad t).1.n).toArray, x, .int .i64 (opC c ad t).2.2]) ∧ Rd w' x (opC c ad t).2.1 ∧ Below w.heap.size w w' := by
 have hcase := opC_cases c ad t
 obtain ⟨key, n⟩ := c
 obtain ⟨ak, ck, rfl, hk2, hk3, -, -⟩ := id hk
 unfold maxLen at hk3
 have HK : Hid (Rd w (.slice ak key.length ck) key) := hk
 have HA : Hid (Rd w va ad) := ha
 have HT : Hid (Rd w vt t) := ht
 have HLa : Hid _ := hla
 have HLt : Hid _ := hlt
 have hnI : (n : Int) < 18446744073709551616 := by have : n < 18446744073709551616 := hn; omega
 generalize opC ⟨key, n⟩ ad t = R at hcase ⊢
 replace hA : A = (ciC (.slice ak key.length ck) n).toArray := hA
 have HN : Hid (n < 18446744073709551616) := hn
 clear hk ha ht hla hlt hn
 go_enter Tryd.func12, Tryd.ntmps12
 go_wp2_with (refine wpList_box_blk rfl 28 _ rfl (ciC (.slice ak key.length ck) n) (by rw [← hA]; rfl) ?_)
 intro w1 r1 b1 s1
 go_wp2_with (refine wpList_alloc_blk rfl 28 rfl (ciC (.slice none 0 0) 0) (alloc_ci _) ?_)
 intro w2 rz b2 s2
 replace r1 := r1.kept b2
 have hbw := stepB b1 b2
 have n1 : w.heap.size < w1.heap.size := by have := s1.out; omega
 have c0 : w2.cell? ⟨w.heap.size, 0, none⟩ = some (.slice ak key.length ck) := r1.cell 0
 have c1 : w2.cell? ⟨w.heap.size, 1, none⟩ = some (.int .u64 (n : Int)) := r1.cell 1
 have z1 := b1.size
 clear b1 b2 s1 s2 hA
 rcases hcase with ⟨h1, rfl⟩ | ⟨h1, h2, rfl⟩ | ⟨h1, h2, rfl⟩ | ⟨h1, h2, h3⟩
 ·have e1 : ((key.length : Int) == 0) = true := by rw [show key.length = 0 from h1]; rfl
  clear h1
  go_wp2_with (first | refine wpList_load_part rfl 28 _ rfl rfl [] (ciC (.slice ak key.length ck) n) [] r1 (whole16 _) rfl Tryd.underlying28 rfl (info_ci _ _) ?_ | (refine wpList_store_part rfl 28 _ _ rfl rfl (ciC (.slice ak key.length ck) n) rfl [] (ciC (.slice none 0 0) 0) [] (ciC (.slice ak key.length ck) n) rz (whole16 _) (whole16 _) rfl rfl (info_ci (.slice none 0 0) 0) (ciC_all _ _ _ _) ?_; intro w7 r7 hw7))
  refine bodyPost_blk3 rfl rfl rfl rfl rfl r7 Tryd.underlying28 rfl (info_ci _ _) ?_
  exact ⟨_, rfl, Rd.kept HT.out (hw7.below _ _ z1 hbw), hw7.below _ _ z1 hbw⟩
 ·have h1' : key.length ≠ 0 := h1
  have h2' : key.length ≠ 32 := h2
  have e1 : ((key.length : Int) == 0) = false := by rw [beq_eq_false_iff_ne]; omega
  have e2 : ((key.length : Int) != 32) = true := by simp; omega
  clear h1 h2 h1' h2'
  go_wp2_with (first | refine wpList_load_part rfl 28 _ rfl rfl [] (ciC (.slice ak key.length ck) n) [] r1 (whole16 _) rfl Tryd.underlying28 rfl (info_ci _ _) ?_ | (refine wpList_store_part rfl 28 _ _ rfl rfl (ciC (.slice ak key.length ck) n) rfl [] (ciC (.slice none 0 0) 0) [] (ciC (.slice ak key.length ck) n) rz (whole16 _) (whole16 _) rfl rfl (info_ci (.slice none 0 0) 0) (ciC_all _ _ _ _) ?_; intro w7 r7 hw7))
  refine bodyPost_blk3 rfl rfl rfl rfl rfl r7 Tryd.underlying28 rfl (info_ci _ _) ?_
  exact ⟨_, rfl, Rd.nil _, hw7.below _ _ z1 hbw⟩
 ·have h1' : key.length = 32 := h1
  have h2' : n = 18446744073709551615 := h2
  have e1 : ((key.length : Int) == 0) = false := by rw [beq_eq_false_iff_ne]; omega
  have e2 : ((key.length : Int) != 32) = false := by simp; omega
  have e3 : ((n : Int) == 18446744073709551615) = true := by simp; omega
  clear h1 h2 h1' h2'
  go_wp2_with (first | refine wpList_load_part rfl 28 _ rfl rfl [] (ciC (.slice ak key.length ck) n) [] r1 (whole16 _) rfl Tryd.underlying28 rfl (info_ci _ _) ?_ | (refine wpList_store_part rfl 28 _ _ rfl rfl (ciC (.slice ak key.length ck) n) rfl [] (ciC (.slice none 0 0) 0) [] (ciC (.slice ak key.length ck) n) rz (whole16 _) (whole16 _) rfl rfl (info_ci (.slice none 0 0) 0) (ciC_all _ _ _ _) ?_; intro w7 r7 hw7))
  refine bodyPost_blk3 rfl rfl rfl rfl rfl r7 Tryd.underlying28 rfl (info_ci _ _) ?_
  exact ⟨_, rfl, Rd.nil _, hw7.below _ _ z1 hbw⟩
 ·have h1' : key.length = 32 := h1
  have h2' : n ≠ 18446744073709551615 := h2
  have e1 : ((key.length : Int) == 0) = false := by rw [beq_eq_false_iff_ne]; omega
  have e2 : ((key.length : Int) != 32) = false := by simp; omega
  have e3 : ((n : Int) == 18446744073709551615) = false := by simp; omega
  have HK32 : Hid (key.length = 32) := h1'
  have HR : Hid (R = if (opQ key (ncL n) ad t).2 = 0 then (⟨key, n + 1⟩, (opQ key (ncL n) ad t).1, 0) else (⟨key, n⟩, [], (opQ key (ncL n) ad t).2)) := h3
  obtain ⟨m, hm⟩ : ∃ m : Nat, m = n + 1 := ⟨_, rfl⟩
  have HMm : Hid (m = n + 1) := hm
  have e4 : IntKind.u64.wrap ((n : Int) + 1) = (m : Int) := by rw [IntKind.wrap_u64]; have := HN.out; omega
  have e5 : ((n : Int) + 1) % 18446744073709551616 = (m : Int) := by have := HN.out; omega
  have hbd := hbw.drew
  clear h1 h2 h1' h2' hm h3
  go_wp2_with fail
  refine wpG_begin (by kernel_rfl) ?_
  refine wpG_t (i := 0) (oi := ⟨some 27, .fieldAddr 28 (.tmp 3) 0, 0, "ref.go:46", #[], none⟩) (v := ?_) ?_ ?_
  rotate_left
  ·intro W hW; go_simp <;> with_reducible rfl
  try simp only [Act.put, putA, putB, putC]
  refine wpG_t (i := 1) (oi := ⟨some 28, .load 22 (.tmp 27), 22, "ref.go:46", #[⟨0, .data⟩], none⟩) (v := ?_) ?_ ?_
  rotate_left
  ·intro W hW; have hcW := cell16 c0 hW; go_simp <;> with_reducible rfl
  try simp only [Act.put, putA, putB, putC]
  refine wpG_t (i := 2) (oi := ⟨some 29, .fieldAddr 28 (.tmp 3) 1, 0, "ref.go:46", #[], none⟩) (v := ?_) ?_ ?_
  rotate_left
  ·intro W hW; go_simp <;> with_reducible rfl
  try simp only [Act.put, putA, putB, putC]
  refine wpG_t (i := 3) (oi := ⟨some 30, .load 23 (.tmp 29), 23, "ref.go:46", #[⟨2, .data⟩], none⟩) (v := ?_) ?_ ?_
  rotate_left
  ·intro W hW; have hcW := cell16 c1 hW; go_simp <;> with_reducible rfl
  try simp only [Act.put, putA, putB, putC]
  refine wpG_t (i := 5) (oi := ⟨some 32, .move (.tmp 1), 22, "ref.go:46", #[], none⟩) (v := ?_) ?_ ?_
  rotate_left
  ·intro W hW; go_simp <;> with_reducible rfl
  try simp only [Act.put, putA, putB, putC]
  refine wpG_t (i := 6) (oi := ⟨some 33, .move (.tmp 2), 22, "ref.go:46", #[], none⟩) (v := ?_) ?_ ?_
  rotate_left
  ·intro W hW; go_simp <;> with_reducible rfl
  try simp only [Act.put, putA, putB, putC]
  refine wpG_do (i := 4) (o := ⟨some 31, .call { callee := .value (.func 24), args := #[.tmp 30], argTypes := #[23] }, 22, "ref.go:46", #[⟨3, .data⟩], none⟩) (by kernel_rfl) rfl (by rfl) fun K hK => ?_
  go_simp
  refine (nonce16_any n HN.out _).mono ?_
  rintro e w3 ⟨v3, rfl, hN3⟩
  obtain ⟨a3, k3, rfl, -⟩ := id hN3.rd
  refine hK.out _ _ hN3.2 ?_
  clear hK K
  try simp only [Act.put, putA, putB, putC]
  refine wpG_do (i := 7) (o := ⟨some 34, .call { callee := .value (.func 27), args := #[.tmp 28, .tmp 31, .tmp 32, .tmp 33], argTypes := #[22, 22, 22, 22] }, 31, "ref.go:46", #[⟨1, .data⟩, ⟨4, .data⟩, ⟨5, .data⟩, ⟨6, .data⟩, ⟨4, .chain⟩], none⟩) (by kernel_rfl) rfl (by rfl) fun K hK => ?_
  go_simp
  refine (openR_q _ _ _ _ key (ncL n) ad t HK32.out (ncL_length n) HLa.out HLt.out _ (Rd.kept HK.out (stepB hbd hN3.2)) hN3.rd (Rd.kept HA.out (stepB hbd hN3.2)) (Rd.kept HT.out (stepB hbd hN3.2))).mono ?_
  rintro e w4 ⟨v4, rfl, hN4⟩
  refine hK.out _ _ hN4.2 ?_
  clear hK K
  try simp only [Act.put, putA, putB, putC]
  refine wpG_t (i := 8) (oi := ⟨some 26, .move (.tmp 34), 31, "ref.go:46", #[⟨7, .data⟩], none⟩) (v := ?_) ?_ ?_
  rotate_left
  ·intro W hW; go_simp <;> with_reducible rfl
  try simp only [Act.put, putA, putB, putC]
  refine wpG_t (i := 9) (oi := ⟨some 35, .extract (.tmp 26) 0, 22, "ref.go:46", #[⟨8, .data⟩], none⟩) (v := ?_) ?_ ?_
  rotate_left
  ·intro W hW; go_simp <;> with_reducible rfl
  try simp only [Act.put, putA, putB, putC]
  refine wpG_t (i := 10) (oi := ⟨some 36, .extract (.tmp 26) 1, 30, "ref.go:46", #[⟨8, .data⟩, ⟨11, .gcOnly .lateStores⟩], none⟩) (v := ?_) ?_ ?_
  rotate_left
  ·intro W hW; go_simp <;> with_reducible rfl
  try simp only [Act.put, putA, putB, putC]
  refine wpG_t (i := 11) (oi := ⟨some 9, .assign (.tmp 35), 22, "ref.go:46", #[⟨9, .data⟩, ⟨7, .chain⟩, ⟨0, .phase⟩, ⟨1, .phase⟩, ⟨2, .phase⟩, ⟨3, .phase⟩, ⟨4, .phase⟩, ⟨5, .phase⟩, ⟨6, .phase⟩, ⟨7, .phase⟩, ⟨8, .phase⟩, ⟨9, .phase⟩, ⟨10, .textOnly .lateStores⟩], none⟩) (v := ?_) ?_ ?_
  rotate_left
  ·intro W hW; go_simp <;> with_reducible rfl
  try simp only [Act.put, putA, putB, putC]
  refine wpG_t (i := 12) (oi := ⟨some 10, .assign (.tmp 36), 30, "ref.go:46", #[⟨10, .data⟩, ⟨11, .chain⟩, ⟨0, .phase⟩, ⟨1, .phase⟩, ⟨2, .phase⟩, ⟨3, .phase⟩, ⟨4, .phase⟩, ⟨5, .phase⟩, ⟨6, .phase⟩, ⟨7, .phase⟩, ⟨8, .phase⟩, ⟨9, .phase⟩, ⟨10, .phase⟩, ⟨11, .phase⟩], none⟩) (v := ?_) ?_ ?_
  rotate_left
  ·intro W hW; go_simp <;> with_reducible rfl
  try simp only [Act.put, putA, putB, putC]
  refine wpG_done (by kernel_rfl) ?_
  have b4 := stepB hN3.2 hN4.2
  have r4 := (r1.drew.kept b4)
  have rz4 := (rz.drew.kept b4)
  have c0' : w4.cell? ⟨w.heap.size, 0, none⟩ = some (.slice ak key.length ck) := r4.cell 0
  have c1' : w4.cell? ⟨w.heap.size, 1, none⟩ = some (.int .u64 (n : Int)) := r4.cell 1
  have hR := HR.out
  obtain ⟨B, hB⟩ : ∃ B, B = (opQ key (ncL n) ad t).1 := ⟨_, rfl⟩
  obtain ⟨q, hq⟩ : ∃ q, q = (opQ key (ncL n) ad t).2 := ⟨_, rfl⟩
  rw [← hB] at hN4
  rw [← hB, ← hq] at hR
  rw [← hq]
  have HX : Hid (w4.ownsRow w3.heap.size 5 1 v4 B.length (B.map bv)) := hN4.1
  have HZ3 : Hid (w1.heap.size < w3.heap.size) := Nat.lt_of_lt_of_le rz.lt hN3.2.size
  have HB4 : Hid _ := stepB hbd b4
  clear hN3 hN4 b4 c0 c1 r1 rz hB hq HR
  by_cases hz : q = 0
  ·have e6 : (q != 0) = false := by rw [hz]; rfl
   have HR : Hid (R = (⟨key, m⟩, B, q)) := (by rw [hR, if_pos hz, HMm.out, hz] : R = (⟨key, m⟩, B, q))
   have HZ : Hid (q = 0) := hz
   clear hz hR
   go_wp2_with (first | refine wpList_buildB rfl 28 #[(0, .tmp 42), (1, .tmp 45)] rfl _ (by go_simp; rfl) _ (build_ci _ _ _ _ _) ?_ | (refine wpList_store_part rfl 28 _ _ rfl rfl (ciC (.slice ak key.length ck) m) rfl [] (ciC (.slice none 0 0) 0) [] (ciC (.slice ak key.length ck) m) rz4 (whole16 _) (whole16 _) rfl rfl (info_ci (.slice none 0 0) 0) (ciC_all _ _ _ _) ?_; intro w7 r7 hw7))
   refine bodyPost_blk3 rfl rfl rfl rfl rfl r7 Tryd.underlying28 rfl (info_ci _ _) ?_
   have hR := HR.out
   subst hR
   refine ⟨v4, rfl, ?_, hw7.below _ _ z1 HB4.out⟩
   exact Rd.of_row (own_chg HX.out (Chg.of_wrote hw7) (fun g e1 e2 => by have := (HX.out.lt g e1).1; have := HZ3.out; omega))
  ·have e6 : (q != 0) = true := by simpa using hz
   have HR : Hid (R = (⟨key, n⟩, [], q)) := (by rw [hR, if_neg hz] : R = (⟨key, n⟩, [], q))
   clear hz hR
   go_wp2_with (first | refine wpList_load_part rfl 28 _ rfl rfl [] (ciC (.slice ak key.length ck) n) [] r4 (whole16 _) rfl Tryd.underlying28 rfl (info_ci _ _) ?_ | (refine wpList_store_part rfl 28 _ _ rfl rfl (ciC (.slice ak key.length ck) n) rfl [] (ciC (.slice none 0 0) 0) [] (ciC (.slice ak key.length ck) n) rz4 (whole16 _) (whole16 _) rfl rfl (info_ci (.slice none 0 0) 0) (ciC_all _ _ _ _) ?_; intro w7 r7 hw7))
   refine bodyPost_blk3 rfl rfl rfl rfl rfl r7 Tryd.underlying28 rfl (info_ci _ _) ?_
   have hR := HR.out
   subst hR
   exact ⟨_, rfl, Rd.nil _, hw7.below _ _ z1 HB4.out⟩
theorem rdB_open {H : Type} {enc : TypeId × Value → H} {P : Program} {W : World} {base fuel : Nat} {spare : Nat → Bool} {held : Bool} {t e : TypeId} {v : Value} {x : DataW H × List MemPlace} (ht : P.underlying t = some (.slice e)) (he : P.underlying e = some (.int .u8)) (hc : P.cellsOf e = 1)
  (h : DataW.trod enc P W base spare held fuel t [v] = some x) : ∃ l, Rd W v l := by
 rcases open_ints ht he hc h with ⟨hcs, _⟩ | ⟨a, len, cap, zs, hcs, _, hl, hm, hz, _, hcell, hwz⟩
 ·simp at hcs
  subst hcs
  exact ⟨[], Rd.nil W⟩
 ·simp at hcs
  subst hcs
  have hzl : len ≤ zs.length := by rw [hz]; split <;> omega
  have hlen : ((zs.take len).map fun n => UInt8.ofNat n.toNat).length = len := by simp; omega
  refine ⟨(zs.take len).map fun n => UInt8.ofNat n.toNat, _, cap, by rw [hlen], by rw [hlen]; exact hl, hm, (fun h => by cases h), ?_⟩
  by_cases h0 : len = 0
  ·left; exact List.eq_nil_of_length_eq_zero (by rw [hlen]; exact h0)
  ·right
   obtain ⟨b, off, spot⟩ := a
   have hspot : spot = none := by simpa [Addr.add] using World.cell?_spot (hcell 0 (by omega))
   subst hspot
   refine ⟨b, off, rfl, fun i hi => ?_⟩
   rw [hlen] at hi
   have h1 := hcell i (by omega)
   have hplain : (⟨b, off, none⟩ : Addr).add i = ⟨b, off + i, none⟩ := by unfold Addr.add; split <;> simp_all
   rw [hplain] at h1
   rw [h1]
   have h2 : i < zs.length := by omega
   have h3 := wf_u8 (hwz zs[i] (List.getElem_mem h2))
   congr 2
   simp only [List.getD_eq_getElem?_getD, List.getElem?_map, List.getElem?_take, hi, if_true, List.getElem?_eq_getElem h2, Option.map_some, Option.getD_some, UInt8.toNat_ofNat']
   omega

theorem nat_of64 {a : Int} (h : (Lit.int .u64 a).wf = true) : ∃ n : Nat, a = (n : Int) ∧ n < 18446744073709551616 := by
 have h2 : 0 ≤ a ∧ a < 18446744073709551616 := by
  simp [Lit.wf, IntKind.min, IntKind.max, IntKind.bits, IntKind.signed] at h
  omega
 exact ⟨a.toNat, by omega, by omega⟩
theorem str_size16 (l : List UInt8) : (⟨l.toArray⟩ : ByteArray).size = l.length := by simp [ByteArray.size]

abbrev Acs := List (Int × List UInt8 × Nat)
def AcR (w : World) (v : Value) (ks : Acs) : Prop :=
 ∃ a cap, v = .slice a ks.length cap ∧ ks.length ≤ cap ∧ cap ≤ maxLen ∧ (ks = [] ∨ ∃ b off, a = some ⟨b, off, none⟩ ∧ ∀ k (h : k < ks.length), ∃ vb, w.cell? ⟨b, off + 3 * k, none⟩ = some (.int .i64 ks[k].1) ∧ w.cell? ⟨b, off + (3 * k + 1), none⟩ = some vb ∧ w.cell? ⟨b, off + (3 * k + 2), none⟩ = some (.int .u64 (ks[k].2.2 : Int)) ∧ Rd w vb ks[k].2.1)
theorem AcR.kept {w w' : World} {v : Value} {ks : Acs} (h : AcR w v ks) (hb : Below w.heap.size w w') : AcR w' v ks := by
 obtain ⟨a, cap, e, h1, h2, h3⟩ := h
 refine ⟨a, cap, e, h1, h2, h3.imp id ?_⟩
 rintro ⟨b, off, e2, hc⟩
 refine ⟨b, off, e2, fun k hk => ?_⟩
 obtain ⟨vb, c1, c2, c3, c4⟩ := hc k hk
 refine ⟨vb, ?_, ?_, ?_, c4.kept hb⟩
 ·rw [hb.cell (World.block_lt_of_cell? _ _ c1)]
  exact c1
 ·rw [hb.cell (World.block_lt_of_cell? _ _ c2)]
  exact c2
 ·rw [hb.cell (World.block_lt_of_cell? _ _ c3)]
  exact c3
theorem rows_open {H : Type} {enc : TypeId × Value → H} {W : World} {base fuel : Nat} {spare : Nat → Bool} {held : Bool} {v : Value} {x : DataW H × List MemPlace} (h : DataW.trod enc Tryd.prog W base spare held fuel 42 [v] = some x) :
  ∃ vs ls, RdL W v vs ls := by
 have k2 : Tryd.prog.cellsOf 22 = 1 := by kernel_rfl
 rcases Deep.open_slice1 Tryd.underlying42 k2 h with ⟨e, -⟩ | ⟨a, len, cap, mm, n2, V, D, Pl, e, -, hl, hm, hmm, -, hc⟩
 ·simp at e
  subst e
  exact ⟨[], [], ⟨none, 0, rfl, by simp, by simp, .inl rfl⟩, rfl, fun i hi => by simp at hi⟩
 ·simp at e
  subst e
  have hlm : len ≤ mm := by rw [hmm]; split <;> omega
  have hrow : ∀ r, r < len → ∃ l : List UInt8, Rd W (V r) l := fun r hr0 => rdB_open Tryd.underlying22 Tryd.underlying5 (by kernel_rfl) (hc r (by omega)).2
  obtain ⟨f, hf⟩ := Go.Deep.choose_lt hrow
  refine ⟨(List.range len).map V, (List.range len).map f, ⟨some a, cap, by simp, by simpa using hl, hm, ?_⟩, by simp, fun i hi => ?_⟩
  ·by_cases h0 : len = 0
   ·left; subst h0; simp
   ·right
    obtain ⟨b, off, spot⟩ := a
    have hspot : spot = none := by simpa [Addr.add] using World.cell?_spot (hc 0 (by omega)).1
    subst hspot
    refine ⟨b, off, rfl, fun i hi => ?_⟩
    have hi' : i < len := by simpa using hi
    have h1 := (hc i (by omega)).1
    have hplain : (⟨b, off, none⟩ : Addr).add i = ⟨b, off + i, none⟩ := by unfold Addr.add; split <;> simp_all
    rw [hplain] at h1
    rw [h1]
    simp [hi']
  ·have hi' : i < len := by simpa using hi
   simpa [hi'] using hf i hi'
end Go.Proofs.YtdlmmcilembjgaaDoor
