/- States of any key, sum and number: the law's walk. -/
import Derived.Test.YtdlmmcilembjgaaGreatDoorGg
import Derived.Test.YtdlmmcilembjgaaGreatDoorGh
import Derived.Test.YtdlmmcilembjgaaGreatDoorBase
namespace Go.Proofs.YtdlmmcilembjgaaGreatDoor
open Go.ChangeShapes Go.WideShapes Go.ChangeAt Go.RowKit
set_option linter.unusedSimpArgs false
set_option linter.unusedVariables false

theorem ne_arr16 {l : List UInt8} {n : Nat} (h : l.length = n) (hn : 0 < n) : byI l ≠ [] := by
 intro e
 have := congrArg List.length e
 rw [byI_length] at this
 simp only [List.length_nil] at this
 omega
theorem max_arr16 {l : List UInt8} {n : Nat} (h : l.length = n) (hn : n ≤ 1000000) : (byI l).length ≤ maxLen := by
 rw [byI_length]
 unfold maxLen
 omega

set_option maxRecDepth 100000 in
set_option maxHeartbeats 8000000 in
theorem seals_walk (Ca : Array Value) (ck : List UInt8) (hl1 : ck.length = 32) (hCa : Ca = ((byI ck).map (Value.int .u8)).toArray) (Ha : Array Value) (h : List UInt8) (hl2 : h.length = 32) (hHa : Ha = ((byI h).map (Value.int .u8)).toArray)
  (vk : Value) (key : List UInt8) (n : Nat) (vt : Value) (t : List UInt8) (hn : n < 18446744073709551616) (w : World) (hk : Rd w vk key) (htx : Rd w vt t) (ht : Tabs w) (hp : PlT w) (hkp : KpT w) :
  Calls Tryz.prog 4 #[.agg Ca, .agg Ha, vk, .int .u64 (n : Int), vt] w fun e w' => e = .returned (.bool true) ∧ Below w.heap.size w w' := by
 have HT : Hid (Tabs w) := ht
 have HP : Hid (PlT w) := hp
 have HKp : Hid (KpT w) := hkp
 have HN : Hid (n < 18446744073709551616) := hn
 obtain ⟨ak, dk, rfl, hck, hmk, -, -⟩ := id hk
 obtain ⟨at', dt, rfl, hct, hmt, -, -⟩ := id htx
 unfold maxLen at hmk hmt
 have HK0 : Hid (Rd w (.slice ak key.length dk) key) := hk
 have HT0 : Hid (Rd w (.slice at' t.length dt) t) := htx
 have HL1 : Hid (ck.length = 32) := hl1
 have HL2 : Hid (h.length = 32) := hl2
 clear ht hp hkp hk htx hn
 go_enter Tryz.func4, Tryz.ntmps4
 go_wp2_with (refine wpList_box_row (k := .u8) rfl 51 _ rfl (byI ck) (by rw [← hCa]; rfl) (ne_arr16 hl1 (by decide)) (max_arr16 hl1 (by decide)) ?_)
 intro w1 rk bn sn
 rw [byI_length, hl1] at rk
 have hbw := bn
 clear bn sn hCa hl1
 go_wp2_with (refine wpList_box_row (k := .u8) rfl 51 _ rfl (byI h) (by rw [← hHa]; rfl) (ne_arr16 hl2 (by decide)) (max_arr16 hl2 (by decide)) ?_)
 intro w2 rn bn sn
 rw [byI_length, hl2] at rn
 replace rk := rk.kept bn
 replace hbw := stepB hbw bn
 clear bn sn hHa hl2
 go_wp2_with fail
 refine (awake_any _ (HT.out.kept hbw) (HP.out.kept hbw) (HKp.out.kept hbw)).mono ?_
 rintro e wa ⟨rfl, bn⟩
 replace rk := rk.kept bn
 replace rn := rn.kept bn
 replace hbw := stepB hbw bn
 have kk := rk.rdB
 have kn := rn.rdB
 rw [HL1.out] at kk
 rw [HL2.out] at kn
 have HC : Hid (Rd wa (.slice (some ⟨w.heap.size, 0, none⟩) 32 32) ck) := kk
 have HH : Hid (Rd wa (.slice (some ⟨w1.heap.size, 0, none⟩) 32 32) h) := kn
 have HBw : Hid (Below w.heap.size w wa) := hbw
 clear kk kn rk rn bn hbw
 by_cases h1 : 100 < key.length
 ·have d1 : decide ((100 : Int) < (key.length : Int)) = true := decide_eq_true (by omega)
  go_wp2_with fail
  go_ret
  exact ⟨rfl, HBw.out⟩
 have d1 : decide ((100 : Int) < (key.length : Int)) = false := decide_eq_false (by omega)
 by_cases h2 : 500 < t.length
 ·have d2 : decide ((500 : Int) < (t.length : Int)) = true := decide_eq_true (by omega)
  go_wp2_with fail
  go_ret
  exact ⟨rfl, HBw.out⟩
 have d2 : decide ((500 : Int) < (t.length : Int)) = false := decide_eq_false (by omega)
 have HLs : Hid (key.length ≤ 100 ∧ t.length ≤ 500) := (by omega : key.length ≤ 100 ∧ t.length ≤ 500)
 have HK : Hid (Rd wa (.slice ak key.length dk) key) := HK0.out.kept HBw.out
 clear h1 h2 HK0
 go_wp2_with fail
 have hB : Below wa.heap.size wa wa.drew := (Below.refl _ _).drew
 refine wpB_begin (Below.refl wa.heap.size wa) (by kernel_rfl) ?_
 refine wpB_t (hb := hB) (i := 0) (oi := ⟨some 36, .slice 51 (.tmp 5) none none none, 26, "law.go:184", #[], none⟩) (v := ?_) ?_ ?_
 rotate_left
 ·intro W hW; go_simp <;> with_reducible rfl
 try simp only [Act.put, putA, putB, putC]
 refine wpB_t (hb := hB) (i := 2) (oi := ⟨some 38, .slice 51 (.tmp 6) none none none, 26, "law.go:184", #[], none⟩) (v := ?_) ?_ ?_
 rotate_left
 ·intro W hW; go_simp <;> with_reducible rfl
 try simp only [Act.put, putA, putB, putC]
 refine wpB_t (hb := hB) (i := 4) (oi := ⟨some 40, .move (.tmp 2), 26, "law.go:184", #[], none⟩) (v := ?_) ?_ ?_
 rotate_left
 ·intro W hW; go_simp <;> with_reducible rfl
 try simp only [Act.put, putA, putB, putC]
 refine wpB_t (hb := hB) (i := 6) (oi := ⟨some 42, .move (.tmp 3), 27, "law.go:184", #[], none⟩) (v := ?_) ?_ ?_
 rotate_left
 ·intro W hW; go_simp <;> with_reducible rfl
 try simp only [Act.put, putA, putB, putC]
 refine wpB_do (i := 1) (o := ⟨some 37, .call { callee := .value (.func 21), args := #[.tmp 36], argTypes := #[26] }, 26, "law.go:184", #[⟨0, .data⟩], none⟩) (by kernel_rfl) rfl (by rfl) fun K hK => ?_
 go_simp
 refine (own_any _ ck (by rw [HL1.out]; decide) _ (HC.out.kept hB)).mono ?_
 rintro e wo ⟨v1, rfl, hN1⟩
 obtain ⟨a1, c1, rfl, -⟩ := id hN1.rd
 have hO1 : Ow 5 w.heap.size _ ck wo := Ow.mono (Ow.of_new hN1) (Nat.le_trans HBw.out.size hB.size)
 replace hB := stepB hB hN1.2
 clear hN1
 refine hK.out _ _ hB ?_
 clear hK K
 try simp only [Act.put, putA, putB, putC]
 refine wpB_do (i := 3) (o := ⟨some 39, .call { callee := .value (.func 21), args := #[.tmp 38], argTypes := #[26] }, 26, "law.go:184", #[⟨2, .data⟩, ⟨1, .chain⟩], none⟩) (by kernel_rfl) rfl (by rfl) fun K hK => ?_
 go_simp
 refine (own_any _ h (by rw [HL2.out]; decide) _ (HH.out.kept hB)).mono ?_
 rintro e wo ⟨v2, rfl, hN2⟩
 obtain ⟨a2, c2, rfl, -⟩ := id hN2.rd
 have hO2 : Ow 5 w.heap.size _ h wo := Ow.mono (Ow.of_new hN2) (Nat.le_trans HBw.out.size hB.size)
 replace hO1 := hO1.kept hN2.2
 replace hB := stepB hB hN2.2
 clear hN2
 refine hK.out _ _ hB ?_
 clear hK K
 try simp only [Act.put, putA, putB, putC]
 refine wpB_do (i := 5) (o := ⟨some 41, .call { callee := .value (.func 21), args := #[.tmp 40], argTypes := #[26] }, 26, "law.go:184", #[⟨4, .data⟩, ⟨3, .chain⟩], none⟩) (by kernel_rfl) rfl (by rfl) fun K hK => ?_
 go_simp
 refine (own_any _ key (by have := HLs.out; omega) _ (HK.out.kept hB)).mono ?_
 rintro e wowb ⟨v3, rfl, hN3⟩
 obtain ⟨a3, c3, rfl, -⟩ := id hN3.rd
 have hO3 : Ow 5 w.heap.size _ key wowb := Ow.mono (Ow.of_new hN3) (Nat.le_trans HBw.out.size hB.size)
 replace hO1 := hO1.kept hN3.2
 replace hO2 := hO2.kept hN3.2
 replace hB := stepB hB hN3.2
 clear hN3
 refine hK.out _ _ hB ?_
 clear hK K
 try simp only [Act.put, putA, putB, putC]
 refine wpB_t (hb := hB) (i := 7) (oi := ⟨some 43, .build 42 #[(0, .tmp 41), (1, .tmp 42)], 42, "law.go:184", #[⟨5, .data⟩, ⟨6, .data⟩], none⟩) (v := ?_) ?_ ?_
 rotate_left
 ·intro W hW; refine Eq.trans (exec_build 42 #[(0, .tmp 41), (1, .tmp 42)] (by rfl) #[(0, .slice a3 key.length c3), (1, .int .u64 (n : Int))] (by go_simp) (.agg #[.slice a3 key.length c3, .int .u64 (n : Int)]) (build_kd16 _ _ _ _ _)) ?_; with_reducible rfl
 try simp only [Act.put, putA, putB, putC]
 refine wpB_t (hb := hB) (i := 8) (oi := ⟨some 44, .build 44 #[(0, .tmp 37), (1, .tmp 39), (2, .tmp 43)], 44, "law.go:184", #[⟨1, .data⟩, ⟨3, .data⟩, ⟨7, .data⟩], none⟩) (v := ?_) ?_ ?_
 rotate_left
 ·intro W hW; refine Eq.trans (exec_build 44 #[(0, .tmp 37), (1, .tmp 39), (2, .tmp 43)] (by rfl) #[(0, .slice a1 ck.length c1), (1, .slice a2 h.length c2), (2, .agg #[.slice a3 key.length c3, .int .u64 (n : Int)])] (by go_simp) (.agg #[.slice a1 ck.length c1, .slice a2 h.length c2, .slice a3 key.length c3, .int .u64 (n : Int)]) (build_st3 _ _ _ _ _ _ _ _ _ _ _)) ?_; with_reducible rfl
 try simp only [Act.put, putA, putB, putC]
 refine wpB_do (i := 9) (o := ⟨some 45, .box 44 (.tmp 44), 24, "law.go:184", #[⟨8, .data⟩], none⟩) (by kernel_rfl) rfl (by rfl) fun K hK => ?_
 refine wp_box_own 44 _ rfl (stD (.slice a1 ck.length c1) (.slice a2 h.length c2) (.slice a3 key.length c3) n) rfl ?_
 intro wb rb bb
 have HSwb : Hid (StP w.heap.size wowb.heap.size ⟨ck, h, ⟨key, n⟩⟩ wb) := (⟨_, _, _, rb, hO1.kept bb, hO2.kept bb, hO3.kept bb⟩ : StP w.heap.size wowb.heap.size ⟨ck, h, ⟨key, n⟩⟩ wb)
 have HOb : Hid (wa.heap.size ≤ wowb.heap.size) := hB.size
 have HGwb : Hid (w.heap.size ≤ wowb.heap.size) := Nat.le_trans HBw.out.size hB.size
 replace hB := stepB hB bb
 clear rb bb hO1 hO2 hO3
 refine hK.out _ _ hB ?_
 clear hK K
 try simp only [Act.put, putA, putB, putC]
 refine wpB_t (hb := hB) (i := 10) (oi := ⟨some 12, .assign (.tmp 45), 24, "law.go:184", #[⟨9, .data⟩, ⟨5, .chain⟩, ⟨0, .phase⟩, ⟨1, .phase⟩, ⟨2, .phase⟩, ⟨3, .phase⟩, ⟨4, .phase⟩, ⟨5, .phase⟩, ⟨6, .phase⟩, ⟨7, .phase⟩, ⟨8, .phase⟩, ⟨9, .phase⟩], none⟩) (v := ?_) ?_ ?_
 rotate_left
 ·intro W hW; go_simp <;> with_reducible rfl
 try simp only [Act.put, putA, putB, putC]
 refine wpB_done (by kernel_rfl) ?_
 replace HC : Hid (Rd _ (.slice (some ⟨w.heap.size, 0, none⟩) 32 32) ck) := HC.out.kept hB
 replace HH : Hid (Rd _ (.slice (some ⟨w1.heap.size, 0, none⟩) 32 32) h) := HH.out.kept hB
 replace HK : Hid (Rd _ (.slice ak key.length dk) key) := HK.out.kept hB
 replace HBw : Hid (Below w.heap.size w _) := stepB HBw.out hB
 clear hB
 go_wp2_with fail
 have hB : Below wb.heap.size wb wb.drew := (Below.refl _ _).drew
 refine wpB_begin (Below.refl wb.heap.size wb) (by kernel_rfl) ?_
 refine wpB_t (hb := hB) (i := 0) (oi := ⟨some 46, .slice 51 (.tmp 5) none none none, 26, "law.go:185", #[], none⟩) (v := ?_) ?_ ?_
 rotate_left
 ·intro W hW; go_simp <;> with_reducible rfl
 try simp only [Act.put, putA, putB, putC]
 refine wpB_t (hb := hB) (i := 2) (oi := ⟨some 48, .slice 51 (.tmp 6) none none none, 26, "law.go:185", #[], none⟩) (v := ?_) ?_ ?_
 rotate_left
 ·intro W hW; go_simp <;> with_reducible rfl
 try simp only [Act.put, putA, putB, putC]
 refine wpB_t (hb := hB) (i := 4) (oi := ⟨some 50, .move (.tmp 2), 26, "law.go:185", #[], none⟩) (v := ?_) ?_ ?_
 rotate_left
 ·intro W hW; go_simp <;> with_reducible rfl
 try simp only [Act.put, putA, putB, putC]
 refine wpB_t (hb := hB) (i := 6) (oi := ⟨some 52, .move (.tmp 3), 27, "law.go:185", #[], none⟩) (v := ?_) ?_ ?_
 rotate_left
 ·intro W hW; go_simp <;> with_reducible rfl
 try simp only [Act.put, putA, putB, putC]
 refine wpB_do (i := 1) (o := ⟨some 47, .call { callee := .value (.func 21), args := #[.tmp 46], argTypes := #[26] }, 26, "law.go:185", #[⟨0, .data⟩], none⟩) (by kernel_rfl) rfl (by rfl) fun K hK => ?_
 go_simp
 refine (own_any _ ck (by rw [HL1.out]; decide) _ (HC.out.kept hB)).mono ?_
 rintro e wo ⟨v1, rfl, hN1⟩
 obtain ⟨a1, c1, rfl, -⟩ := id hN1.rd
 have hO1 : Ow 5 w.heap.size _ ck wo := Ow.mono (Ow.of_new hN1) (Nat.le_trans HBw.out.size hB.size)
 replace hB := stepB hB hN1.2
 clear hN1
 refine hK.out _ _ hB ?_
 clear hK K
 try simp only [Act.put, putA, putB, putC]
 refine wpB_do (i := 3) (o := ⟨some 49, .call { callee := .value (.func 21), args := #[.tmp 48], argTypes := #[26] }, 26, "law.go:185", #[⟨2, .data⟩, ⟨1, .chain⟩], none⟩) (by kernel_rfl) rfl (by rfl) fun K hK => ?_
 go_simp
 refine (own_any _ h (by rw [HL2.out]; decide) _ (HH.out.kept hB)).mono ?_
 rintro e wo ⟨v2, rfl, hN2⟩
 obtain ⟨a2, c2, rfl, -⟩ := id hN2.rd
 have hO2 : Ow 5 w.heap.size _ h wo := Ow.mono (Ow.of_new hN2) (Nat.le_trans HBw.out.size hB.size)
 replace hO1 := hO1.kept hN2.2
 replace hB := stepB hB hN2.2
 clear hN2
 refine hK.out _ _ hB ?_
 clear hK K
 try simp only [Act.put, putA, putB, putC]
 refine wpB_do (i := 5) (o := ⟨some 51, .call { callee := .value (.func 21), args := #[.tmp 50], argTypes := #[26] }, 26, "law.go:185", #[⟨4, .data⟩, ⟨3, .chain⟩], none⟩) (by kernel_rfl) rfl (by rfl) fun K hK => ?_
 go_simp
 refine (own_any _ key (by have := HLs.out; omega) _ (HK.out.kept hB)).mono ?_
 rintro e wowc ⟨v3, rfl, hN3⟩
 obtain ⟨a3, c3, rfl, -⟩ := id hN3.rd
 have hO3 : Ow 5 w.heap.size _ key wowc := Ow.mono (Ow.of_new hN3) (Nat.le_trans HBw.out.size hB.size)
 replace hO1 := hO1.kept hN3.2
 replace hO2 := hO2.kept hN3.2
 replace hB := stepB hB hN3.2
 clear hN3
 refine hK.out _ _ hB ?_
 clear hK K
 try simp only [Act.put, putA, putB, putC]
 refine wpB_t (hb := hB) (i := 7) (oi := ⟨some 53, .build 42 #[(0, .tmp 51), (1, .tmp 52)], 42, "law.go:185", #[⟨5, .data⟩, ⟨6, .data⟩], none⟩) (v := ?_) ?_ ?_
 rotate_left
 ·intro W hW; refine Eq.trans (exec_build 42 #[(0, .tmp 51), (1, .tmp 52)] (by rfl) #[(0, .slice a3 key.length c3), (1, .int .u64 (n : Int))] (by go_simp) (.agg #[.slice a3 key.length c3, .int .u64 (n : Int)]) (build_kd16 _ _ _ _ _)) ?_; with_reducible rfl
 try simp only [Act.put, putA, putB, putC]
 refine wpB_t (hb := hB) (i := 8) (oi := ⟨some 54, .build 44 #[(0, .tmp 47), (1, .tmp 49), (2, .tmp 53)], 44, "law.go:185", #[⟨1, .data⟩, ⟨3, .data⟩, ⟨7, .data⟩], none⟩) (v := ?_) ?_ ?_
 rotate_left
 ·intro W hW; refine Eq.trans (exec_build 44 #[(0, .tmp 47), (1, .tmp 49), (2, .tmp 53)] (by rfl) #[(0, .slice a1 ck.length c1), (1, .slice a2 h.length c2), (2, .agg #[.slice a3 key.length c3, .int .u64 (n : Int)])] (by go_simp) (.agg #[.slice a1 ck.length c1, .slice a2 h.length c2, .slice a3 key.length c3, .int .u64 (n : Int)]) (build_st3 _ _ _ _ _ _ _ _ _ _ _)) ?_; with_reducible rfl
 try simp only [Act.put, putA, putB, putC]
 refine wpB_do (i := 9) (o := ⟨some 55, .box 44 (.tmp 54), 24, "law.go:185", #[⟨8, .data⟩], none⟩) (by kernel_rfl) rfl (by rfl) fun K hK => ?_
 refine wp_box_own 44 _ rfl (stD (.slice a1 ck.length c1) (.slice a2 h.length c2) (.slice a3 key.length c3) n) rfl ?_
 intro wc rb bb
 have HSwc : Hid (StP w.heap.size wowc.heap.size ⟨ck, h, ⟨key, n⟩⟩ wc) := (⟨_, _, _, rb, hO1.kept bb, hO2.kept bb, hO3.kept bb⟩ : StP w.heap.size wowc.heap.size ⟨ck, h, ⟨key, n⟩⟩ wc)
 have HOb : Hid (wb.heap.size ≤ wowc.heap.size) := hB.size
 have HGwc : Hid (w.heap.size ≤ wowc.heap.size) := Nat.le_trans HBw.out.size hB.size
 replace hB := stepB hB bb
 clear rb bb hO1 hO2 hO3
 refine hK.out _ _ hB ?_
 clear hK K
 try simp only [Act.put, putA, putB, putC]
 refine wpB_t (hb := hB) (i := 10) (oi := ⟨some 13, .assign (.tmp 55), 24, "law.go:185", #[⟨9, .data⟩, ⟨5, .chain⟩, ⟨0, .phase⟩, ⟨1, .phase⟩, ⟨2, .phase⟩, ⟨3, .phase⟩, ⟨4, .phase⟩, ⟨5, .phase⟩, ⟨6, .phase⟩, ⟨7, .phase⟩, ⟨8, .phase⟩, ⟨9, .phase⟩], none⟩) (v := ?_) ?_ ?_
 rotate_left
 ·intro W hW; go_simp <;> with_reducible rfl
 try simp only [Act.put, putA, putB, putC]
 refine wpB_done (by kernel_rfl) ?_
 replace HC : Hid (Rd _ (.slice (some ⟨w.heap.size, 0, none⟩) 32 32) ck) := HC.out.kept hB
 replace HH : Hid (Rd _ (.slice (some ⟨w1.heap.size, 0, none⟩) 32 32) h) := HH.out.kept hB
 replace HK : Hid (Rd _ (.slice ak key.length dk) key) := HK.out.kept hB
 replace HBw : Hid (Below w.heap.size w _) := stepB HBw.out hB
 have HLt : Hid (wowb.heap.size < wowc.heap.size) := (by
  have h1 := HSwb.out.lt
  have h2 := HOb.out
  omega : wowb.heap.size < wowc.heap.size)
 replace HSwb : Hid (StP w.heap.size wowb.heap.size ⟨ck, h, ⟨key, n⟩⟩ wc) := HSwb.out.kept hB
 clear hB
 go_wp2_with fail
 have hB : Below wc.heap.size wc wc.drew := (Below.refl _ _).drew
 refine wpB_begin (Below.refl wc.heap.size wc) (by kernel_rfl) ?_
 refine wpB_t (hb := hB) (i := 0) (oi := ⟨some 56, .slice 51 (.tmp 5) none none none, 26, "law.go:186", #[], none⟩) (v := ?_) ?_ ?_
 rotate_left
 ·intro W hW; go_simp <;> with_reducible rfl
 try simp only [Act.put, putA, putB, putC]
 refine wpB_t (hb := hB) (i := 1) (oi := ⟨some 57, .slice 51 (.tmp 6) none none none, 26, "law.go:186", #[], none⟩) (v := ?_) ?_ ?_
 rotate_left
 ·intro W hW; go_simp <;> with_reducible rfl
 try simp only [Act.put, putA, putB, putC]
 refine wpB_t (hb := hB) (i := 2) (oi := ⟨some 58, .move (.tmp 2), 26, "law.go:186", #[], none⟩) (v := ?_) ?_ ?_
 rotate_left
 ·intro W hW; go_simp <;> with_reducible rfl
 try simp only [Act.put, putA, putB, putC]
 refine wpB_t (hb := hB) (i := 3) (oi := ⟨some 59, .move (.tmp 3), 27, "law.go:186", #[], none⟩) (v := ?_) ?_ ?_
 rotate_left
 ·intro W hW; go_simp <;> with_reducible rfl
 try simp only [Act.put, putA, putB, putC]
 refine wpB_t (hb := hB) (i := 4) (oi := ⟨some 60, .build 29 #[(0, .tmp 58), (1, .tmp 59)], 29, "law.go:186", #[⟨2, .data⟩, ⟨3, .data⟩], none⟩) (v := ?_) ?_ ?_
 rotate_left
 ·intro W hW; refine Eq.trans (exec_build 29 #[(0, .tmp 58), (1, .tmp 59)] (by rfl) #[(0, .slice ak key.length dk), (1, .int .u64 (n : Int))] (by go_simp) (.agg #[.slice ak key.length dk, .int .u64 (n : Int)]) (build_ci _ _ _ _ _)) ?_; with_reducible rfl
 try simp only [Act.put, putA, putB, putC]
 refine wpB_t (hb := hB) (i := 5) (oi := ⟨some 61, .build 31 #[(0, .tmp 56), (1, .tmp 57), (2, .tmp 60)], 31, "law.go:186", #[⟨0, .data⟩, ⟨1, .data⟩, ⟨4, .data⟩], none⟩) (v := ?_) ?_ ?_
 rotate_left
 ·intro W hW; refine Eq.trans (exec_build 31 #[(0, .tmp 56), (1, .tmp 57), (2, .tmp 60)] (by rfl) #[(0, .slice (some ⟨w.heap.size, 0, none⟩) 32 32), (1, .slice (some ⟨w1.heap.size, 0, none⟩) 32 32), (2, .agg #[.slice ak key.length dk, .int .u64 (n : Int)])] (by go_simp) (.agg #[.slice (some ⟨w.heap.size, 0, none⟩) 32 32, .slice (some ⟨w1.heap.size, 0, none⟩) 32 32, .slice ak key.length dk, .int .u64 (n : Int)]) (build_sa _ _ _ _ _ _ _ _ _ _ _)) ?_; with_reducible rfl
 try simp only [Act.put, putA, putB, putC]
 refine wpB_do (i := 6) (o := ⟨some 14, .alloc 31, 0, "law.go:186", #[], none⟩) (by kernel_rfl) rfl (by rfl) fun K hK => ?_
 refine wp_alloc_blk hB 31 rfl (saC (.slice none 0 0) (.slice none 0 0) (.slice none 0 0) 0) (alloc_sa _) ?_
 intro gv wv rv hgv hBv
 replace hB := hBv
 refine hK.out _ _ hB ?_
 clear hK K
 try simp only [Act.put, putA, putB, putC]
 refine wpB_do (i := 7) (o := ⟨none, .store 31 (.tmp 14) (.tmp 61), 0, "law.go:186", #[⟨6, .data⟩, ⟨5, .data⟩, ⟨0, .phase⟩, ⟨1, .phase⟩, ⟨2, .phase⟩, ⟨3, .phase⟩, ⟨4, .phase⟩, ⟨5, .phase⟩, ⟨6, .phase⟩], none⟩) (by kernel_rfl) rfl (by rfl) fun K hK => ?_
 refine wp_store_part 31 _ _ rfl rfl (saC (.slice (some ⟨w.heap.size, 0, none⟩) 32 32) (.slice (some ⟨w1.heap.size, 0, none⟩) 32 32) (.slice ak key.length dk) n) rfl [] (saC (.slice none 0 0) (.slice none 0 0) (.slice none 0 0) 0) [] (saC (.slice (some ⟨w.heap.size, 0, none⟩) 32 32) (.slice (some ⟨w1.heap.size, 0, none⟩) 32 32) (.slice ak key.length dk) n) rv (whole16 _) (whole16 _) rfl rfl (info_sa (.slice none 0 0) (.slice none 0 0) (.slice none 0 0) 0) (saC_all _ _ _ _ _ _ _ _ _ _) ?_
 intro wd rd hwd
 replace hB := hwd.below _ _ hgv hB
 refine hK.out _ _ hB ?_
 clear hK K
 try simp only [Act.put, putA, putB, putC]
 refine wpB_done (by kernel_rfl) ?_
 have HRv : Hid (BlkAt gv 31 (saC (.slice (some ⟨w.heap.size, 0, none⟩) 32 32) (.slice (some ⟨w1.heap.size, 0, none⟩) 32 32) (.slice ak key.length dk) n) wd) := rd
 have HNa : Hid (gv ≠ wowb.heap.size) := (by have := HSwb.out.lt; omega : gv ≠ wowb.heap.size)
 have HNb : Hid (gv ≠ wowc.heap.size) := (by have := HSwc.out.lt; omega : gv ≠ wowc.heap.size)
 replace HC : Hid (Rd _ (.slice (some ⟨w.heap.size, 0, none⟩) 32 32) ck) := HC.out.kept hB
 replace HH : Hid (Rd _ (.slice (some ⟨w1.heap.size, 0, none⟩) 32 32) h) := HH.out.kept hB
 replace HK : Hid (Rd _ (.slice ak key.length dk) key) := HK.out.kept hB
 replace HBw : Hid (Below w.heap.size w _) := stepB HBw.out hB
 replace HSwb : Hid (StP w.heap.size wowb.heap.size ⟨ck, h, ⟨key, n⟩⟩ wd) := HSwb.out.kept hB
 replace HSwc : Hid (StP w.heap.size wowc.heap.size ⟨ck, h, ⟨key, n⟩⟩ wd) := HSwc.out.kept hB
 clear hB
 clear rd hwd rv hgv
 have hkeep := seS_keeps ⟨ck, h, ⟨key, n⟩⟩ t HN.out
 have hXl := seS_len ⟨ck, h, ⟨key, n⟩⟩ t HN.out
 have HLX : Hid (h.length + (seC ⟨key, n⟩ h t).2.1.length ≤ 1000000) := (by have := (seC_facts ⟨key, n⟩ h t HN.out).2.2; have := HLs.out; have := HL2.out; omega : h.length + (seC ⟨key, n⟩ h t).2.1.length ≤ 1000000)
 obtain ⟨Q, hQ⟩ : ∃ Q, Q = seS ⟨ck, h, ⟨key, n⟩⟩ t := ⟨_, rfl⟩
 rw [← hQ] at hkeep hXl
 obtain ⟨s1, X, E⟩ := Q
 have HQ : Hid ((s1, X, E) = seS ⟨ck, h, ⟨key, n⟩⟩ t) := hQ
 have HE1 : Hid (s1.ck = ck) := hkeep.1
 have HE2 : Hid (s1.c.key = key) := hkeep.2
 have HXl : Hid (X.length ≤ 516) := (by have : X.length ≤ t.length + 16 := hXl; have := HLs.out; omega : X.length ≤ 516)
 clear hkeep hXl hQ
 go_wp2_with fail
 refine (sseal_any w.heap.size wowb.heap.size ⟨ck, h, ⟨key, n⟩⟩ HN.out _ t (by have := HLs.out; omega) (by show h.length ≤ _; rw [HL2.out]; decide) _ HGwb.out HSwb.out (HT0.out.kept HBw.out) w rfl HBw.out HT.out HP.out HKp.out).mono ?_
 rw [← HQ.out]
 rintro e we ⟨x, rfl, hx, hS1, ce⟩
 replace hx : Ow 5 wd.heap.size x X we := hx
 replace HSwc : Hid (StP w.heap.size wowc.heap.size ⟨ck, h, ⟨key, n⟩⟩ we) := HSwc.out.other HSwb.out ce (by have := HLt.out; omega)
 replace HRv : Hid (BlkAt gv 31 (saC (.slice (some ⟨w.heap.size, 0, none⟩) 32 32) (.slice (some ⟨w1.heap.size, 0, none⟩) 32 32) (.slice ak key.length dk) n) we) := BlkAt.chg HRv.out ce HNa.out
 replace HC : Hid (Rd we (.slice (some ⟨w.heap.size, 0, none⟩) 32 32) ck) := StP.far HC.out HSwb.out ce
 replace HH : Hid (Rd we (.slice (some ⟨w1.heap.size, 0, none⟩) 32 32) h) := StP.far HH.out HSwb.out ce
 replace HK : Hid (Rd we (.slice ak key.length dk) key) := StP.far HK.out HSwb.out ce
 replace HBw : Hid (Below w.heap.size w we) := Chg.gone HBw.out ce HBw.out.size HGwb.out
 replace HSwb : Hid (StP w.heap.size wowb.heap.size s1 we) := hS1
 obtain ⟨ax, cx, rfl, -⟩ := id hx.rd
 have HX : Hid (Rd we (.slice ax X.length cx) X) := hx.rd
 clear hx hS1 ce
 go_wp2_with (refine wpList_load_part rfl 31 _ rfl rfl [] (saC (.slice (some ⟨w.heap.size, 0, none⟩) 32 32) (.slice (some ⟨w1.heap.size, 0, none⟩) 32 32) (.slice ak key.length dk) n) [] HRv.out (whole16 _) rfl Tryz.underlying31 rfl (info_sa _ _ _ _) ?_)
 go_wp2_with fail
 refine (sealin16_any ⟨ck, h, ⟨key, n⟩⟩ _ _ _ _ t _ rfl HN.out (by show h.length ≤ _; rw [HL2.out]; decide) (by have := HLs.out; omega) HLX.out _ HC.out HH.out HK.out (HT0.out.kept HBw.out)).mono ?_
 rw [← HQ.out]
 rintro e wf ⟨z, y, rfl, hz, hy, bf⟩
 replace hz : Rd wf z s1.h := hz
 replace hy : Rd wf y X := hy
 obtain ⟨az, cz, rfl, -⟩ := id hz
 obtain ⟨ay, cy, rfl, -⟩ := id hy
 have HZ0 : Hid (Rd wf (.slice az s1.h.length cz) s1.h) := hz
 have HY0 : Hid (Rd wf (.slice ay X.length cy) X) := hy
 clear hz hy
 go_wp2_with (first | (refine wpList_alloc_blk rfl 31 rfl (saC (.slice none 0 0) (.slice none 0 0) (.slice none 0 0) 0) (alloc_sa _) ?_; intro wa' ra ba sa) | (refine wpList_store_part rfl 31 _ _ rfl rfl (saC (.slice (some ⟨w.heap.size, 0, none⟩) 32 32) (.slice az s1.h.length cz) (.slice ak key.length dk) s1.c.n) rfl [] (saC (.slice none 0 0) (.slice none 0 0) (.slice none 0 0) 0) [] (saC (.slice (some ⟨w.heap.size, 0, none⟩) 32 32) (.slice az s1.h.length cz) (.slice ak key.length dk) s1.c.n) ra (whole16 _) (whole16 _) rfl rfl (info_sa (.slice none 0 0) (.slice none 0 0) (.slice none 0 0) 0) (saC_all _ _ _ _ _ _ _ _ _ _) ?_; intro wg rg hwg; have bg : Below wf.heap.size wf wg := hwg.below _ _ (Nat.le_refl _) ba; have k1 := convS ((HX.out.kept bf).kept bg); have k2 := convS (HY0.out.kept bg)) | refine wpList_loadG16 31 _ rfl rfl (saC (.slice (some ⟨w.heap.size, 0, none⟩) 32 32) (.slice az s1.h.length cz) (.slice ak key.length dk) s1.c.n) rg Tryz.underlying31 rfl (info_sa _ _ _ _) (by go_simp; done) ?_)
 have bfg := stepB bf bg
 replace HBw : Hid (Below w.heap.size w wg) := stepB HBw.out bfg
 replace HSwb : Hid (StP w.heap.size wowb.heap.size s1 wg) := HSwb.out.kept bfg
 replace HSwc : Hid (StP w.heap.size wowc.heap.size ⟨ck, h, ⟨key, n⟩⟩ wg) := HSwc.out.kept bfg
 replace HRv : Hid (BlkAt gv 31 (saC (.slice (some ⟨w.heap.size, 0, none⟩) 32 32) (.slice (some ⟨w1.heap.size, 0, none⟩) 32 32) (.slice ak key.length dk) n) wg) := BlkAt.kept HRv.out bfg
 replace HC : Hid (Rd wg (.slice (some ⟨w.heap.size, 0, none⟩) 32 32) ck) := HC.out.kept bfg
 replace HH : Hid (Rd wg (.slice (some ⟨w1.heap.size, 0, none⟩) 32 32) h) := HH.out.kept bfg
 replace HK : Hid (Rd wg (.slice ak key.length dk) key) := HK.out.kept bfg
 replace HX : Hid (Rd wg (.slice ax X.length cx) X) := HX.out.kept bfg
 replace HY0 : Hid (Rd wg (.slice ay X.length cy) X) := HY0.out.kept bg
 replace HZ0 : Hid (Rd wg (.slice az s1.h.length cz) s1.h) := HZ0.out.kept bg
 clear bf bg bfg hwg rg ra ba sa k1 k2
 refine (like_any w.heap.size wowb.heap.size s1 _ _ _ _ rfl _ HSwb.out (by rw [HE1.out]; exact HC.out) HZ0.out (by rw [HE2.out]; exact HK.out)).mono ?_
 rintro e wh ⟨rfl, bh⟩
 replace HBw : Hid (Below w.heap.size w wh) := stepB HBw.out bh
 replace HSwc : Hid (StP w.heap.size wowc.heap.size ⟨ck, h, ⟨key, n⟩⟩ wh) := HSwc.out.kept bh
 replace HRv : Hid (BlkAt gv 31 (saC (.slice (some ⟨w.heap.size, 0, none⟩) 32 32) (.slice (some ⟨w1.heap.size, 0, none⟩) 32 32) (.slice ak key.length dk) n) wh) := BlkAt.kept HRv.out bh
 replace HC : Hid (Rd wh (.slice (some ⟨w.heap.size, 0, none⟩) 32 32) ck) := HC.out.kept bh
 replace HH : Hid (Rd wh (.slice (some ⟨w1.heap.size, 0, none⟩) 32 32) h) := HH.out.kept bh
 replace HK : Hid (Rd wh (.slice ak key.length dk) key) := HK.out.kept bh
 replace HX : Hid (Rd wh (.slice ax X.length cx) X) := HX.out.kept bh
 replace HY0 : Hid (Rd wh (.slice ay X.length cy) X) := HY0.out.kept bh
 clear bh HSwb HZ0 HE1 HE2 HQ HLX
 have hkeep := opS_keeps ⟨ck, h, ⟨key, n⟩⟩ X HN.out
 obtain ⟨Q, hQ⟩ : ∃ Q, Q = opS ⟨ck, h, ⟨key, n⟩⟩ X := ⟨_, rfl⟩
 rw [← hQ] at hkeep
 obtain ⟨s2, Y, G⟩ := Q
 have HQ : Hid ((s2, Y, G) = opS ⟨ck, h, ⟨key, n⟩⟩ X) := hQ
 have HE1 : Hid (s2.ck = ck) := hkeep.1
 have HE2 : Hid (s2.c.key = key) := hkeep.2
 clear hkeep hQ
 go_wp2_with fail
 refine (sopen_any w.heap.size wowc.heap.size ⟨ck, h, ⟨key, n⟩⟩ HN.out _ X (by have := HXl.out; omega) (by show h.length ≤ _; rw [HL2.out]; decide) _ HGwc.out HSwc.out HX.out w rfl HBw.out HT.out HP.out HKp.out).mono ?_
 rw [← HQ.out]
 rintro e wi ⟨x, rfl, hx, hS1, ce⟩
 replace hx : Ow 5 wh.heap.size x Y wi := hx
 replace HRv : Hid (BlkAt gv 31 (saC (.slice (some ⟨w.heap.size, 0, none⟩) 32 32) (.slice (some ⟨w1.heap.size, 0, none⟩) 32 32) (.slice ak key.length dk) n) wi) := BlkAt.chg HRv.out ce HNb.out
 replace HC : Hid (Rd wi (.slice (some ⟨w.heap.size, 0, none⟩) 32 32) ck) := StP.far HC.out HSwc.out ce
 replace HH : Hid (Rd wi (.slice (some ⟨w1.heap.size, 0, none⟩) 32 32) h) := StP.far HH.out HSwc.out ce
 replace HK : Hid (Rd wi (.slice ak key.length dk) key) := StP.far HK.out HSwc.out ce
 replace HY0 : Hid (Rd wi (.slice ay X.length cy) X) := StP.far HY0.out HSwc.out ce
 replace HBw : Hid (Below w.heap.size w wi) := Chg.gone HBw.out ce HBw.out.size HGwc.out
 have HSb : Hid (StP w.heap.size wowc.heap.size s2 wi) := hS1
 obtain ⟨bx, dx, rfl, -⟩ := id hx.rd
 have HZ : Hid (Rd wi (.slice bx Y.length dx) Y) := hx.rd
 clear hx hS1 ce HSwc HX
 go_wp2_with (refine wpList_load_part rfl 31 _ rfl rfl [] (saC (.slice (some ⟨w.heap.size, 0, none⟩) 32 32) (.slice (some ⟨w1.heap.size, 0, none⟩) 32 32) (.slice ak key.length dk) n) [] HRv.out (whole16 _) rfl Tryz.underlying31 rfl (info_sa _ _ _ _) ?_)
 go_wp2_with fail
 refine (openin16_any ⟨ck, h, ⟨key, n⟩⟩ _ _ _ _ X _ rfl HN.out (by show h.length ≤ _; rw [HL2.out]; decide) (by have := HXl.out; omega) (by show h.length + X.length ≤ _; have := HXl.out; have := HL2.out; omega) _ HC.out HH.out HK.out HY0.out).mono ?_
 rw [← HQ.out]
 rintro e wj ⟨z, y, rfl, hz, hy, bj⟩
 replace hz : Rd wj z s2.h := hz
 replace hy : Rd wj y Y := hy
 obtain ⟨ez, fz, rfl, -⟩ := id hz
 obtain ⟨ey, fy, rfl, -⟩ := id hy
 have HZ1 : Hid (Rd wj (.slice ez s2.h.length fz) s2.h) := hz
 have HY1 : Hid (Rd wj (.slice ey Y.length fy) Y) := hy
 clear hz hy
 go_wp2_with (first | (refine wpList_alloc_blk rfl 31 rfl (saC (.slice none 0 0) (.slice none 0 0) (.slice none 0 0) 0) (alloc_sa _) ?_; intro wa' ra ba sa) | (refine wpList_store_part rfl 31 _ _ rfl rfl (saC (.slice (some ⟨w.heap.size, 0, none⟩) 32 32) (.slice ez s2.h.length fz) (.slice ak key.length dk) s2.c.n) rfl [] (saC (.slice none 0 0) (.slice none 0 0) (.slice none 0 0) 0) [] (saC (.slice (some ⟨w.heap.size, 0, none⟩) 32 32) (.slice ez s2.h.length fz) (.slice ak key.length dk) s2.c.n) ra (whole16 _) (whole16 _) rfl rfl (info_sa (.slice none 0 0) (.slice none 0 0) (.slice none 0 0) 0) (saC_all _ _ _ _ _ _ _ _ _ _) ?_; intro wk rk' hwk; have bk : Below wj.heap.size wj wk := hwk.below _ _ (Nat.le_refl _) ba; have k1 := convS ((HZ.out.kept bj).kept bk); have k2 := convS (HY1.out.kept bk)) | refine wpList_loadG16 31 _ rfl rfl (saC (.slice (some ⟨w.heap.size, 0, none⟩) 32 32) (.slice ez s2.h.length fz) (.slice ak key.length dk) s2.c.n) rk' Tryz.underlying31 rfl (info_sa _ _ _ _) (by go_simp; done) ?_)
 have bjk := stepB bj bk
 replace HBw : Hid (Below w.heap.size w wk) := stepB HBw.out bjk
 replace HSb : Hid (StP w.heap.size wowc.heap.size s2 wk) := HSb.out.kept bjk
 replace HC : Hid (Rd wk (.slice (some ⟨w.heap.size, 0, none⟩) 32 32) ck) := HC.out.kept bjk
 replace HK : Hid (Rd wk (.slice ak key.length dk) key) := HK.out.kept bjk
 replace HZ1 : Hid (Rd wk (.slice ez s2.h.length fz) s2.h) := HZ1.out.kept bk
 clear bj bk bjk hwk rk' ra ba sa k1 k2
 refine (like_any w.heap.size wowc.heap.size s2 _ _ _ _ rfl _ HSb.out (by rw [HE1.out]; exact HC.out) HZ1.out (by rw [HE2.out]; exact HK.out)).mono ?_
 rintro e wl ⟨rfl, bl⟩
 have HBl : Hid (Below w.heap.size w wl) := stepB HBw.out bl
 clear bl
 go_wp2_with fail
 go_ret
 exact ⟨rfl, HBl.out⟩
end Go.Proofs.YtdlmmcilembjgaaGreatDoor
