/- What functions of the program, or of the reference, answer: contracts; several texts in one. -/
import Derived.Test.YtdlmmcilembjgaaGreatDoorGg
import Derived.Test.YtdlmmcilembjgaaGreatDoorGb
import Derived.Test.YtdlmmcilembjgaaGreatDoorBase
import Derived.Test.YtdlmmcilembjgaaGreatDoorChecked
import Derived.WalkKit
import Derived.Deep.Slices
import Derived.Deep.Strs
import Derived.OpenShut
import Derived.ChangeSlices
import Derived.ChangeSame

namespace Go.Proofs.YtdlmmcilembjgaaGreatDoor
open Go.ChangeShapes Go.WideShapes Go.ChangeAt Go.RowKit
set_option linter.unusedSimpArgs false
set_option linter.unusedVariables false

theorem seS_cases (s : Sta) (t : List UInt8) : ((seC s.c s.h t).2.2 = 0 ∧ seS s t = (⟨s.ck, s2L (s.h ++ (seC s.c s.h t).2.1), (seC s.c s.h t).1⟩, (seC s.c s.h t).2.1, 0)) ∨ ((seC s.c s.h t).2.2 ≠ 0 ∧ seS s t = (s, [], (seC s.c s.h t).2.2)) := by
 unfold seS
 by_cases h : (seC s.c s.h t).2.2 = 0
 ·exact .inl ⟨h, if_pos h⟩
 ·exact .inr ⟨h, if_neg h⟩

set_option maxRecDepth 100000 in
set_option maxHeartbeats 4000000 in
theorem sealin16_any (s : Sta) (vc vh vk vt : Value) (t : List UInt8) (A : Array Value) (hA : A = (saC vc vh vk s.c.n).toArray) (hn : s.c.n < 18446744073709551616) (hlh : s.h.length ≤ 100000) (hlt : t.length ≤ 3000000) (hlx : s.h.length + (seC s.c s.h t).2.1.length ≤ 1000000) (w : World) (hc : Rd w vc s.ck) (hh : Rd w vh s.h) (hk : Rd w vk s.c.key) (ht : Rd w vt t) :
  Calls Tryz.prog 15 #[.agg A, vt] w fun e w' => ∃ z x, e = .returned (.tuple #[.agg (saC vc z vk (seS s t).1.c.n).toArray, x, .int .i64 (seS s t).2.2]) ∧ Rd w' z (seS s t).1.h ∧ Rd w' x (seS s t).2.1 ∧ Below w.heap.size w w' := by
 have hcase := seS_cases s t
 obtain ⟨ck, h, ⟨key, n⟩⟩ := s
 obtain ⟨ac, cc, rfl, -⟩ := id hc
 obtain ⟨ah, ch, rfl, -⟩ := id hh
 obtain ⟨ak, cq, rfl, -⟩ := id hk
 have HC : Hid (Rd w (.slice ac ck.length cc) ck) := hc
 have HH : Hid (Rd w (.slice ah h.length ch) h) := hh
 have HKy : Hid (Rd w (.slice ak key.length cq) key) := hk
 have HT : Hid (Rd w vt t) := ht
 have HLt : Hid (t.length ≤ 3000000) := hlt
 have HLh : Hid (h.length ≤ 100000) := hlh
 have HN : Hid (n < 18446744073709551616) := hn
 obtain ⟨S, hS⟩ : ∃ S, S = seS ⟨ck, h, ⟨key, n⟩⟩ t := ⟨_, rfl⟩
 rw [← hS] at hcase ⊢
 replace hcase : ((seC ⟨key, n⟩ h t).2.2 = 0 ∧ S = (⟨ck, s2L (h ++ (seC ⟨key, n⟩ h t).2.1), (seC ⟨key, n⟩ h t).1⟩, (seC ⟨key, n⟩ h t).2.1, 0)) ∨ ((seC ⟨key, n⟩ h t).2.2 ≠ 0 ∧ S = (⟨ck, h, ⟨key, n⟩⟩, [], (seC ⟨key, n⟩ h t).2.2)) := hcase
 replace hlx : h.length + (seC ⟨key, n⟩ h t).2.1.length ≤ 1000000 := hlx
 replace hA : A = (saC (.slice ac ck.length cc) (.slice ah h.length ch) (.slice ak key.length cq) n).toArray := hA
 have HCase : Hid _ := hcase
 have HLx : Hid _ := hlx
 clear hc hh hk ht hn hlh hlt hlx hS hcase
 go_enter Tryz.func15, Tryz.ntmps15
 go_wp2_with (refine wpList_box_blk rfl 31 _ rfl (saC (.slice ac ck.length cc) (.slice ah h.length ch) (.slice ak key.length cq) n) (by rw [← hA]; rfl) ?_)
 intro w1 r1 b1 s1
 go_wp2_with (refine wpList_alloc_blk rfl 31 rfl (saC (.slice none 0 0) (.slice none 0 0) (.slice none 0 0) 0) (alloc_sa _) ?_)
 intro w2 rz b2 s2
 replace r1 := r1.kept b2
 have hbw := stepB b1 b2
 have c1 : w2.cell? ⟨w.heap.size, 1, none⟩ = some (.slice ah h.length ch) := r1.cell 1
 have z1 := b1.size
 clear b1 b2 s1 s2 hA
 go_wp2_with (refine wpList_load_part rfl 29 _ rfl rfl [.slice ac ck.length cc, .slice ah h.length ch] (ciC (.slice ak key.length cq) n) [] r1 (partS _ _ _ _) rfl Tryz.underlying29 rfl (info_ci _ _) ?_)
 refine (seal16_any ⟨key, n⟩ _ _ _ h t _ rfl HN.out (by have := HLh.out; omega) HLt.out _ (Rd.kept HKy.out hbw) (Rd.kept HH.out hbw) (Rd.kept HT.out hbw)).mono ?_
 have hcase := HCase.out
 have hlx := HLx.out
 generalize seC ⟨key, n⟩ h t = Q at hcase hlx ⊢
 obtain ⟨⟨kq, m⟩, X, E⟩ := Q
 replace hcase : (E = 0 ∧ S = (⟨ck, s2L (h ++ X), ⟨kq, m⟩⟩, X, 0)) ∨ (E ≠ 0 ∧ S = (⟨ck, h, ⟨key, n⟩⟩, [], E)) := hcase
 have HLX : Hid (h.length + X.length ≤ 1000000) := hlx
 rintro e w3 ⟨vx, rfl, hx, B3⟩
 replace hx : Rd w3 vx X := hx
 replace r1 := r1.kept B3
 replace rz := rz.kept B3
 have hb3 := stepB hbw B3
 have z3 := rz.lt
 have z5 : w.heap.size ≤ w3.heap.size := hb3.size
 clear hlx HCase HLx c1 hbw B3
 have HX : Hid (Rd w3 vx X) := hx
 go_wp2_with (refine wpList_alloc_blk rfl 29 rfl (ciC (.slice none 0 0) 0) (alloc_ci _) ?_)
 intro w4 rc b4 s4
 replace r1 := r1.kept b4
 replace rz := rz.kept b4
 have hb4 := stepB hb3 b4
 have hx4 := Rd.kept HX.out b4
 have z4 := rc.lt
 obtain ⟨ax, dx, rfl, -⟩ := id hx4
 have HX4 : Hid _ := hx4
 have e3 : w3.heap.size ≠ w.heap.size := by have := r1.lt; omega
 clear b4 s4 hb3 HX hx hx4
 rcases hcase with ⟨hE, hS⟩ | ⟨hE, hS⟩
 ·have e6 : (E != 0) = false := by rw [hE]; rfl
  have HS : Hid (S = (⟨ck, s2L (h ++ X), ⟨kq, m⟩⟩, X, E)) := (by rw [hS, hE] : S = (⟨ck, s2L (h ++ X), ⟨kq, m⟩⟩, X, E))
  clear hE hS
  go_wp2_with (first | (refine wpList_store_part rfl 29 _ _ rfl rfl (ciC (.slice ak key.length cq) m) rfl [] (ciC (.slice none 0 0) 0) [] (ciC (.slice ak key.length cq) m) rc (whole16 _) (whole16 _) rfl rfl (info_ci (.slice none 0 0) 0) (ciC_all _ _ _ _) ?_; intro w5 r5 hw5; have rz5 := rz.wrote hw5 (by omega); have r15 := r1.wrote hw5 (by omega)) | refine wpList_load_part rfl 31 _ rfl rfl [] (saC (.slice ac ck.length cc) (.slice ah h.length ch) (.slice ak key.length cq) n) [] r15 (whole16 _) rfl Tryz.underlying31 rfl (info_sa _ _ _ _) ?_)
  have hx5 := Rd.far16 HX4.out rc (ciC_no8 _ _ _ _) hw5
  have hb5 := hw5.below _ _ z5 hb4
  refine (mixhash16_any ⟨ck, h, ⟨key, n⟩⟩ _ _ _ _ X _ rfl HLX.out _ (Rd.kept HC.out hb5) (Rd.kept HH.out hb5) (Rd.kept HKy.out hb5) hx5).mono ?_
  rintro e w6 ⟨vz, rfl, hz, B6⟩
  replace hz : Rd w6 vz (s2L (h ++ X)) := hz
  obtain ⟨H, hH⟩ : ∃ K, K = s2L (h ++ X) := ⟨_, rfl⟩
  rw [← hH] at hz
  have HHq : Hid (s2L (h ++ X) = H) := hH.symm
  obtain ⟨az, dz, rfl, -⟩ := id hz
  have HZ : Hid _ := hz
  have HX6 : Hid _ := Rd.kept hx5 B6
  have rz6 := rz5.kept B6
  have r56 := r5.kept B6
  have hb6 := stepB hb5 B6
  have z6 : w.heap.size ≤ w6.heap.size := hb6.size
  have l1 := rz6.lt
  have l2 := r56.lt
  clear hz hx5 hH B6 hb5 r5 rz5 r15 hw5 rc rz r1 hb4 HX4
  go_wp2_with (refine wpList_alloc_blk rfl 31 rfl (saC (.slice none 0 0) (.slice none 0 0) (.slice none 0 0) 0) (alloc_sa _) ?_)
  intro w8 rt b8 s8
  replace rz6 := rz6.kept b8
  replace r56 := r56.kept b8
  have hb8 := stepB hb6 b8
  have HZ8 : Hid _ := Rd.kept HZ.out b8
  have HX8 : Hid _ := Rd.kept HX6.out b8
  clear b8 s8 hb6 HZ HX6
  go_wp2_with (first | (refine wpList_store_part rfl 31 _ _ rfl rfl (saC (.slice ac ck.length cc) (.slice az H.length dz) (.slice ak key.length cq) n) rfl [] (saC (.slice none 0 0) (.slice none 0 0) (.slice none 0 0) 0) [] (saC (.slice ac ck.length cc) (.slice az H.length dz) (.slice ak key.length cq) n) rt (whole16 _) (whole16 _) rfl rfl (info_sa (.slice none 0 0) (.slice none 0 0) (.slice none 0 0) 0) (saC_all _ _ _ _ _ _ _ _ _ _) ?_; intro w9 r9 hw9; have rz9 := rz6.wrote hw9 (by omega); have r59 := r56.wrote hw9 (by omega)) | refine wpList_load_part rfl 29 _ rfl rfl [] (ciC (.slice ak key.length cq) m) [] r59 (whole16 _) rfl Tryz.underlying29 rfl (info_ci _ _) ?_ | (refine wpList_store_part rfl 29 _ _ rfl rfl (ciC (.slice ak key.length cq) m) rfl [.slice ac ck.length cc, .slice az H.length dz] (ciC (.slice ak key.length cq) n) [] (saC (.slice ac ck.length cc) (.slice az H.length dz) (.slice ak key.length cq) m) r9 (partS _ _ _ _) (partS _ _ _ _) rfl rfl (info_ci (.slice ak key.length cq) n) (ciC_all _ _ _ _) ?_; intro w10 r10 hw10; have rz10 := rz9.wrote hw10 (by omega)) | refine wpList_load_part rfl 31 _ rfl rfl [] (saC (.slice ac ck.length cc) (.slice az H.length dz) (.slice ak key.length cq) m) [] r10 (whole16 _) rfl Tryz.underlying31 rfl (info_sa _ _ _ _) ?_ | (refine wpList_store_part rfl 31 _ _ rfl rfl (saC (.slice ac ck.length cc) (.slice az H.length dz) (.slice ak key.length cq) m) rfl [] (saC (.slice none 0 0) (.slice none 0 0) (.slice none 0 0) 0) [] (saC (.slice ac ck.length cc) (.slice az H.length dz) (.slice ak key.length cq) m) rz10 (whole16 _) (whole16 _) rfl rfl (info_sa (.slice none 0 0) (.slice none 0 0) (.slice none 0 0) 0) (saC_all _ _ _ _ _ _ _ _ _ _) ?_; intro w11 r11 hw11))
  refine bodyPost_blk3 rfl rfl rfl rfl rfl r11 Tryz.underlying31 rfl (info_sa _ _ _ _) ?_
  have n8 := saC_no8 none none none 0 0 0 0 0 0 0
  have n9 := saC_no8 ac az ak ck.length cc H.length dz key.length cq n
  have f1 := ((Rd.far16 HZ8.out rt n8 hw9).far16 r9 n9 hw10).far16 rz10 n8 hw11
  have f2 := ((Rd.far16 HX8.out rt n8 hw9).far16 r9 n9 hw10).far16 rz10 n8 hw11
  have bE := hw11.below _ _ z1 (hw10.below _ _ z6 (hw9.below _ _ z6 hb8))
  rw [HS.out]
  refine ⟨.slice az H.length dz, .slice ax X.length dx, ?_, ?_, f2, bE⟩
  ·rfl
  ·show Rd _ _ (s2L (h ++ X))
   rw [HHq.out]
   exact f1
 ·have e6 : (E != 0) = true := by simpa using hE
  have HS : Hid _ := hS
  clear hE hS
  go_wp2_with (first | (refine wpList_store_part rfl 29 _ _ rfl rfl (ciC (.slice ak key.length cq) m) rfl [] (ciC (.slice none 0 0) 0) [] (ciC (.slice ak key.length cq) m) rc (whole16 _) (whole16 _) rfl rfl (info_ci (.slice none 0 0) 0) (ciC_all _ _ _ _) ?_; intro w5 r5 hw5; have rz5 := rz.wrote hw5 (by omega); have r15 := r1.wrote hw5 (by omega)) | refine wpList_load_part rfl 31 _ rfl rfl [] (saC (.slice ac ck.length cc) (.slice ah h.length ch) (.slice ak key.length cq) n) [] r15 (whole16 _) rfl Tryz.underlying31 rfl (info_sa _ _ _ _) ?_ | (refine wpList_store_part rfl 31 _ _ rfl rfl (saC (.slice ac ck.length cc) (.slice ah h.length ch) (.slice ak key.length cq) n) rfl [] (saC (.slice none 0 0) (.slice none 0 0) (.slice none 0 0) 0) [] (saC (.slice ac ck.length cc) (.slice ah h.length ch) (.slice ak key.length cq) n) rz5 (whole16 _) (whole16 _) rfl rfl (info_sa (.slice none 0 0) (.slice none 0 0) (.slice none 0 0) 0) (saC_all _ _ _ _ _ _ _ _ _ _) ?_; intro w7 r7 hw7))
  refine bodyPost_blk3 rfl rfl rfl rfl rfl r7 Tryz.underlying31 rfl (info_sa _ _ _ _) ?_
  have bE := hw7.below _ _ z1 (hw5.below _ _ z5 hb4)
  rw [HS.out]
  exact ⟨_, _, rfl, Rd.kept HH.out bE, Rd.nil _, bE⟩
theorem opS_cases (s : Sta) (t : List UInt8) : ((opC s.c s.h t).2.2 = 0 ∧ opS s t = (⟨s.ck, s2L (s.h ++ t), (opC s.c s.h t).1⟩, (opC s.c s.h t).2.1, 0)) ∨ ((opC s.c s.h t).2.2 ≠ 0 ∧ opS s t = (s, [], (opC s.c s.h t).2.2)) := by
 unfold opS
 by_cases h : (opC s.c s.h t).2.2 = 0
 ·exact .inl ⟨h, if_pos h⟩
 ·exact .inr ⟨h, if_neg h⟩

set_option maxRecDepth 100000 in
set_option maxHeartbeats 4000000 in
theorem openin16_any (s : Sta) (vc vh vk vt : Value) (t : List UInt8) (A : Array Value) (hA : A = (saC vc vh vk s.c.n).toArray) (hn : s.c.n < 18446744073709551616) (hlh : s.h.length ≤ 100000) (hlt : t.length ≤ 3000000) (hlx : s.h.length + t.length ≤ 1000000) (w : World) (hc : Rd w vc s.ck) (hh : Rd w vh s.h) (hk : Rd w vk s.c.key) (ht : Rd w vt t) :
  Calls Tryz.prog 17 #[.agg A, vt] w fun e w' => ∃ z x, e = .returned (.tuple #[.agg (saC vc z vk (opS s t).1.c.n).toArray, x, .int .i64 (opS s t).2.2]) ∧ Rd w' z (opS s t).1.h ∧ Rd w' x (opS s t).2.1 ∧ Below w.heap.size w w' := by
 have hcase := opS_cases s t
 obtain ⟨ck, h, ⟨key, n⟩⟩ := s
 obtain ⟨ac, cc, rfl, -⟩ := id hc
 obtain ⟨ah, ch, rfl, -⟩ := id hh
 obtain ⟨ak, cq, rfl, -⟩ := id hk
 have HC : Hid (Rd w (.slice ac ck.length cc) ck) := hc
 have HH : Hid (Rd w (.slice ah h.length ch) h) := hh
 have HKy : Hid (Rd w (.slice ak key.length cq) key) := hk
 have HT : Hid (Rd w vt t) := ht
 have HLt : Hid (t.length ≤ 3000000) := hlt
 have HLh : Hid (h.length ≤ 100000) := hlh
 have HN : Hid (n < 18446744073709551616) := hn
 obtain ⟨S, hS⟩ : ∃ S, S = opS ⟨ck, h, ⟨key, n⟩⟩ t := ⟨_, rfl⟩
 rw [← hS] at hcase ⊢
 replace hcase : ((opC ⟨key, n⟩ h t).2.2 = 0 ∧ S = (⟨ck, s2L (h ++ t), (opC ⟨key, n⟩ h t).1⟩, (opC ⟨key, n⟩ h t).2.1, 0)) ∨ ((opC ⟨key, n⟩ h t).2.2 ≠ 0 ∧ S = (⟨ck, h, ⟨key, n⟩⟩, [], (opC ⟨key, n⟩ h t).2.2)) := hcase
 replace hlx : h.length + t.length ≤ 1000000 := hlx
 replace hA : A = (saC (.slice ac ck.length cc) (.slice ah h.length ch) (.slice ak key.length cq) n).toArray := hA
 have HCase : Hid _ := hcase
 have HLx : Hid _ := hlx
 clear hc hh hk ht hn hlh hlt hlx hS hcase
 go_enter Tryz.func17, Tryz.ntmps17
 go_wp2_with (refine wpList_box_blk rfl 31 _ rfl (saC (.slice ac ck.length cc) (.slice ah h.length ch) (.slice ak key.length cq) n) (by rw [← hA]; rfl) ?_)
 intro w1 r1 b1 s1
 go_wp2_with (refine wpList_alloc_blk rfl 31 rfl (saC (.slice none 0 0) (.slice none 0 0) (.slice none 0 0) 0) (alloc_sa _) ?_)
 intro w2 rz b2 s2
 replace r1 := r1.kept b2
 have hbw := stepB b1 b2
 have c1 : w2.cell? ⟨w.heap.size, 1, none⟩ = some (.slice ah h.length ch) := r1.cell 1
 have z1 := b1.size
 clear b1 b2 s1 s2 hA
 go_wp2_with (refine wpList_load_part rfl 29 _ rfl rfl [.slice ac ck.length cc, .slice ah h.length ch] (ciC (.slice ak key.length cq) n) [] r1 (partS _ _ _ _) rfl Tryz.underlying29 rfl (info_ci _ _) ?_)
 refine (open16_any ⟨key, n⟩ _ _ _ h t _ rfl HN.out (by have := HLh.out; omega) HLt.out _ (Rd.kept HKy.out hbw) (Rd.kept HH.out hbw) (Rd.kept HT.out hbw)).mono ?_
 have hcase := HCase.out
 have hlx := HLx.out
 generalize opC ⟨key, n⟩ h t = Q at hcase ⊢
 obtain ⟨⟨kq, m⟩, X, E⟩ := Q
 replace hcase : (E = 0 ∧ S = (⟨ck, s2L (h ++ t), ⟨kq, m⟩⟩, X, 0)) ∨ (E ≠ 0 ∧ S = (⟨ck, h, ⟨key, n⟩⟩, [], E)) := hcase
 have HLX : Hid (h.length + t.length ≤ 1000000) := hlx
 rintro e w3 ⟨vx, rfl, hx, B3⟩
 replace hx : Rd w3 vx X := hx
 replace r1 := r1.kept B3
 replace rz := rz.kept B3
 have hb3 := stepB hbw B3
 have z3 := rz.lt
 have z5 : w.heap.size ≤ w3.heap.size := hb3.size
 clear hlx HCase HLx c1 hbw B3
 have HX : Hid (Rd w3 vx X) := hx
 go_wp2_with (refine wpList_alloc_blk rfl 29 rfl (ciC (.slice none 0 0) 0) (alloc_ci _) ?_)
 intro w4 rc b4 s4
 replace r1 := r1.kept b4
 replace rz := rz.kept b4
 have hb4 := stepB hb3 b4
 have hx4 := Rd.kept HX.out b4
 have z4 := rc.lt
 obtain ⟨ax, dx, rfl, -⟩ := id hx4
 have HX4 : Hid _ := hx4
 have e3 : w3.heap.size ≠ w.heap.size := by have := r1.lt; omega
 clear b4 s4 hb3 HX hx hx4
 rcases hcase with ⟨hE, hS⟩ | ⟨hE, hS⟩
 ·have e6 : (E != 0) = false := by rw [hE]; rfl
  have HS : Hid (S = (⟨ck, s2L (h ++ t), ⟨kq, m⟩⟩, X, E)) := (by rw [hS, hE] : S = (⟨ck, s2L (h ++ t), ⟨kq, m⟩⟩, X, E))
  clear hE hS
  go_wp2_with (first | (refine wpList_store_part rfl 29 _ _ rfl rfl (ciC (.slice ak key.length cq) m) rfl [] (ciC (.slice none 0 0) 0) [] (ciC (.slice ak key.length cq) m) rc (whole16 _) (whole16 _) rfl rfl (info_ci (.slice none 0 0) 0) (ciC_all _ _ _ _) ?_; intro w5 r5 hw5; have rz5 := rz.wrote hw5 (by omega); have r15 := r1.wrote hw5 (by omega)) | refine wpList_load_part rfl 31 _ rfl rfl [] (saC (.slice ac ck.length cc) (.slice ah h.length ch) (.slice ak key.length cq) n) [] r15 (whole16 _) rfl Tryz.underlying31 rfl (info_sa _ _ _ _) ?_)
  have hx5 := Rd.far16 HX4.out rc (ciC_no8 _ _ _ _) hw5
  have hb5 := hw5.below _ _ z5 hb4
  refine (mixhash16_any ⟨ck, h, ⟨key, n⟩⟩ _ _ _ _ t _ rfl HLX.out _ (Rd.kept HC.out hb5) (Rd.kept HH.out hb5) (Rd.kept HKy.out hb5) (Rd.kept HT.out hb5)).mono ?_
  rintro e w6 ⟨vz, rfl, hz, B6⟩
  replace hz : Rd w6 vz (s2L (h ++ t)) := hz
  obtain ⟨H, hH⟩ : ∃ K, K = s2L (h ++ t) := ⟨_, rfl⟩
  rw [← hH] at hz
  have HHq : Hid (s2L (h ++ t) = H) := hH.symm
  obtain ⟨az, dz, rfl, -⟩ := id hz
  have HZ : Hid _ := hz
  have HX6 : Hid _ := Rd.kept hx5 B6
  have rz6 := rz5.kept B6
  have r56 := r5.kept B6
  have hb6 := stepB hb5 B6
  have z6 : w.heap.size ≤ w6.heap.size := hb6.size
  have l1 := rz6.lt
  have l2 := r56.lt
  clear hz hx5 hH B6 hb5 r5 rz5 r15 hw5 rc rz r1 hb4 HX4
  go_wp2_with (refine wpList_alloc_blk rfl 31 rfl (saC (.slice none 0 0) (.slice none 0 0) (.slice none 0 0) 0) (alloc_sa _) ?_)
  intro w8 rt b8 s8
  replace rz6 := rz6.kept b8
  replace r56 := r56.kept b8
  have hb8 := stepB hb6 b8
  have HZ8 : Hid _ := Rd.kept HZ.out b8
  have HX8 : Hid _ := Rd.kept HX6.out b8
  clear b8 s8 hb6 HZ HX6
  go_wp2_with (first | (refine wpList_store_part rfl 31 _ _ rfl rfl (saC (.slice ac ck.length cc) (.slice az H.length dz) (.slice ak key.length cq) n) rfl [] (saC (.slice none 0 0) (.slice none 0 0) (.slice none 0 0) 0) [] (saC (.slice ac ck.length cc) (.slice az H.length dz) (.slice ak key.length cq) n) rt (whole16 _) (whole16 _) rfl rfl (info_sa (.slice none 0 0) (.slice none 0 0) (.slice none 0 0) 0) (saC_all _ _ _ _ _ _ _ _ _ _) ?_; intro w9 r9 hw9; have rz9 := rz6.wrote hw9 (by omega); have r59 := r56.wrote hw9 (by omega)) | refine wpList_load_part rfl 29 _ rfl rfl [] (ciC (.slice ak key.length cq) m) [] r59 (whole16 _) rfl Tryz.underlying29 rfl (info_ci _ _) ?_ | (refine wpList_store_part rfl 29 _ _ rfl rfl (ciC (.slice ak key.length cq) m) rfl [.slice ac ck.length cc, .slice az H.length dz] (ciC (.slice ak key.length cq) n) [] (saC (.slice ac ck.length cc) (.slice az H.length dz) (.slice ak key.length cq) m) r9 (partS _ _ _ _) (partS _ _ _ _) rfl rfl (info_ci (.slice ak key.length cq) n) (ciC_all _ _ _ _) ?_; intro w10 r10 hw10; have rz10 := rz9.wrote hw10 (by omega)) | refine wpList_load_part rfl 31 _ rfl rfl [] (saC (.slice ac ck.length cc) (.slice az H.length dz) (.slice ak key.length cq) m) [] r10 (whole16 _) rfl Tryz.underlying31 rfl (info_sa _ _ _ _) ?_ | (refine wpList_store_part rfl 31 _ _ rfl rfl (saC (.slice ac ck.length cc) (.slice az H.length dz) (.slice ak key.length cq) m) rfl [] (saC (.slice none 0 0) (.slice none 0 0) (.slice none 0 0) 0) [] (saC (.slice ac ck.length cc) (.slice az H.length dz) (.slice ak key.length cq) m) rz10 (whole16 _) (whole16 _) rfl rfl (info_sa (.slice none 0 0) (.slice none 0 0) (.slice none 0 0) 0) (saC_all _ _ _ _ _ _ _ _ _ _) ?_; intro w11 r11 hw11))
  refine bodyPost_blk3 rfl rfl rfl rfl rfl r11 Tryz.underlying31 rfl (info_sa _ _ _ _) ?_
  have n8 := saC_no8 none none none 0 0 0 0 0 0 0
  have n9 := saC_no8 ac az ak ck.length cc H.length dz key.length cq n
  have f1 := ((Rd.far16 HZ8.out rt n8 hw9).far16 r9 n9 hw10).far16 rz10 n8 hw11
  have f2 := ((Rd.far16 HX8.out rt n8 hw9).far16 r9 n9 hw10).far16 rz10 n8 hw11
  have bE := hw11.below _ _ z1 (hw10.below _ _ z6 (hw9.below _ _ z6 hb8))
  rw [HS.out]
  refine ⟨.slice az H.length dz, .slice ax X.length dx, ?_, ?_, f2, bE⟩
  ·rfl
  ·show Rd _ _ (s2L (h ++ t))
   rw [HHq.out]
   exact f1
 ·have e6 : (E != 0) = true := by simpa using hE
  have HS : Hid _ := hS
  clear hE hS
  go_wp2_with (first | (refine wpList_store_part rfl 29 _ _ rfl rfl (ciC (.slice ak key.length cq) m) rfl [] (ciC (.slice none 0 0) 0) [] (ciC (.slice ak key.length cq) m) rc (whole16 _) (whole16 _) rfl rfl (info_ci (.slice none 0 0) 0) (ciC_all _ _ _ _) ?_; intro w5 r5 hw5; have rz5 := rz.wrote hw5 (by omega); have r15 := r1.wrote hw5 (by omega)) | refine wpList_load_part rfl 31 _ rfl rfl [] (saC (.slice ac ck.length cc) (.slice ah h.length ch) (.slice ak key.length cq) n) [] r15 (whole16 _) rfl Tryz.underlying31 rfl (info_sa _ _ _ _) ?_ | (refine wpList_store_part rfl 31 _ _ rfl rfl (saC (.slice ac ck.length cc) (.slice ah h.length ch) (.slice ak key.length cq) n) rfl [] (saC (.slice none 0 0) (.slice none 0 0) (.slice none 0 0) 0) [] (saC (.slice ac ck.length cc) (.slice ah h.length ch) (.slice ak key.length cq) n) rz5 (whole16 _) (whole16 _) rfl rfl (info_sa (.slice none 0 0) (.slice none 0 0) (.slice none 0 0) 0) (saC_all _ _ _ _ _ _ _ _ _ _) ?_; intro w7 r7 hw7))
  refine bodyPost_blk3 rfl rfl rfl rfl rfl r7 Tryz.underlying31 rfl (info_sa _ _ _ _) ?_
  have bE := hw7.below _ _ z1 (hw5.below _ _ z5 hb4)
  rw [HS.out]
  exact ⟨_, _, rfl, Rd.kept HH.out bE, Rd.nil _, bE⟩
theorem build_sa2 (a1 a2 : Option Addr) (l1 c1 l2 c2 : Nat) (w : World) : (Instr.build 31 #[(0, .slice a1 l1 c1), (1, .slice a2 l2 c2)]).run Tryz.prog w = .ok (.agg #[.slice a1 l1 c1, .slice a2 l2 c2, .slice none 0 0, .int .u64 0]) w := by kernel_rfl
theorem nwH_pad (l : List UInt8) (z : Nat) (h : l.length + z = 32) : nwH l = l ++ List.replicate z 0 := by
 unfold nwH
 rw [if_neg (by omega), show 32 - l.length = z by omega]

set_option maxRecDepth 100000 in
set_option maxHeartbeats 4000000 in
theorem new16_any (l : List UInt8) (hl : l.length ≤ 1000000) (w : World) : Calls Tryz.prog 7 #[.string ⟨l.toArray⟩] w fun e w' => ∃ x, e = .returned (.agg (saC x x (.slice none 0 0) 0).toArray) ∧ Rd w' x (nwH l) ∧ Below w.heap.size w w' := by
 have HL : Hid (l.length ≤ 1000000) := hl
 have hlI : (l.length : Int) < 9223372036854775808 := by omega
 go_enter Tryz.func7, Tryz.ntmps7
 go_wp2_with (refine wpList_alloc_blk rfl 31 rfl (saC (.slice none 0 0) (.slice none 0 0) (.slice none 0 0) 0) (alloc_sa _) ?_)
 intro w1 rz b1 s1
 have z1 : w.heap.size ≤ w.heap.size := Nat.le_refl _
 have HZ : Hid (BlkAt w.heap.size 31 _ w1) := rz
 clear s1 rz
 go_wp2_with (refine wpList_append_text rfl _ _ 26 9 rfl 5 Tryz.underlying26 Tryz.underlying9 infoU8 l rfl rfl (by have := HL.out; omega) ?_)
 intro v2 w2 hN2
 obtain ⟨a2, c2, rfl, hc2, hm2, -, -⟩ := id hN2.rd
 have HN2 : Hid (New 5 w1 (.slice a2 l.length c2) l w2) := hN2
 have HB1 : Hid (Below w.heap.size w w1) := b1
 clear hN2 b1
 by_cases h : 32 < l.length
 ·have hd : decide ((32 : Int) < (l.length : Int)) = true := decide_eq_true (by omega)
  have HH : Hid (nwH l = otL (abF 136 6 l) 136 32) := (if_pos h : nwH l = s2L l)
  clear h hl
  go_wp2_with fail
  refine (sum256R_any _ l HL.out _ HN2.out.rd).mono ?_
  rintro e w3 ⟨v3, rfl, h3, b3⟩
  rw [← HH.out] at h3
  have hlen : (nwH l).length = 32 := nwH_length l
  obtain ⟨a3, c3, rfl, hc3, hm3, -, -⟩ := id h3
  rw [hlen] at hc3 ⊢
  have h3' : Rd w3 (.slice a3 32 c3) (nwH l) := by rw [hlen] at h3; exact h3
  have HB3 : Hid (Below w1.heap.size w1 w3) := stepB HN2.out.2 b3
  have H3 : Hid (Rd w3 (.slice a3 32 c3) (nwH l)) := h3'
  clear h3 h3' b3 HN2 hlen hd
  go_wp2
  go_loopw [3] (fun v wr => v = .slice a3 32 c3 ∧ wr = w3) (fun v _ => 0)
  case atStart => exact ⟨rfl, rfl⟩
  case round =>
   obtain ⟨rfl, rfl⟩ := hrel
   have rz3 := HZ.out.kept HB3.out
   go_wp2_with (first | refine wpList_buildB rfl 31 #[(0, .tmp 18), (1, .tmp 19)] rfl #[(0, .slice a3 32 c3), (1, .slice a3 32 c3)] (by go_simp) (.agg #[.slice a3 32 c3, .slice a3 32 c3, .slice none 0 0, .int .u64 0]) (build_sa2 _ _ _ _ _ _ _) ?_ | (refine wpList_store_part rfl 31 _ _ rfl rfl (saC (.slice a3 32 c3) (.slice a3 32 c3) (.slice none 0 0) 0) rfl [] (saC (.slice none 0 0) (.slice none 0 0) (.slice none 0 0) 0) [] (saC (.slice a3 32 c3) (.slice a3 32 c3) (.slice none 0 0) 0) rz3 (whole16 _) (whole16 _) rfl rfl (info_sa (.slice none 0 0) (.slice none 0 0) (.slice none 0 0) 0) (saC_all _ _ _ _ _ _ _ _ _ _) ?_; intro w7 r7 hw7))
   refine bodyPost_blk rfl rfl rfl r7 Tryz.underlying31 rfl (info_sa _ _ _ _) ?_
   exact ⟨_, rfl, H3.out.far16 rz3 (saC_no8 _ _ _ _ _ _ _ _ _ _) hw7, hw7.below _ _ z1 (stepB HB1.out HB3.out)⟩
 ·have hd : decide ((32 : Int) < (l.length : Int)) = false := decide_eq_false (by omega)
  have HLe : Hid (l.length ≤ 32) := (by omega : l.length ≤ 32)
  clear h hl
  have hO3 : Own 5 w1 [(.slice a2 l.length c2, l ++ List.replicate 0 0)] w2 := by
   have := (Own.start 5 w1).new HN2.out
   simpa using this
  go_wp2
  clear HN2
  go_loopw [3] (fun v wr => ∃ z : Nat, l.length + z ≤ 32 ∧ Own 5 w1 [(v, l ++ List.replicate z 0)] wr) (fun v _ => 32 - sLen v)
  case atStart => exact ⟨0, by have := HLe.out; omega, hO3⟩
  case round =>
   obtain ⟨z, hz, hO4⟩ := hrel
   clear hO3 hd hc2 hm2
   obtain ⟨a, cap, rfl, hcap, hmax, hnil, -⟩ := hO4.rd (List.mem_cons_self ..)
   have el : (l ++ List.replicate z (0 : UInt8)).length = l.length + z := by simp
   rw [el] at hcap hO4 ⊢
   clear el
   obtain ⟨L, hL⟩ : ∃ L : Nat, L = l.length + z := ⟨_, rfl⟩
   have HLz : Hid (L = l.length + z) := hL
   rw [← hL] at hz hcap hO4 ⊢
   clear hL
   by_cases hlt : L < 32
   ·have hd : decide ((L : Int) < 32) = true := decide_eq_true (by omega)
    have hLI : (L : Int) < 32 := by omega
    have hlen : (l ++ List.replicate z (0 : UInt8)).length + [(0 : UInt8)].length ≤ 140737488355328 := by have := HLz.out; simp; omega
    have hL1 : Rd (wr.alloc (.cells #[.int .u8 0] 5)) (.slice (some ⟨wr.heap.size, 0, none⟩) 1 1) [0] := Rd.lit1 0 rfl
    go_wp2_with (at_builtin; go_must (refine wpList_append_Own (w0 := w1) rfl _ _ 26 rfl Tryz.underlying26 infoU8 _ _ rfl (hO4.kept (growB _)) _ _ rfl hL1 hlen ?_))
    intro v5 w5 hO5
    have hO6 : Own 5 w1 [(v5, l ++ List.replicate (z + 1) 0)] w5 := by
     rw [List.replicate_succ']
     first | exact hO5 | (rw [List.append_assoc] at hO5; exact hO5) | (rw [← List.append_assoc]; exact hO5)
    clear hO5 hO4 hL1
    obtain ⟨a6, cap6, rfl, -⟩ := hO6.rd (List.mem_cons_self ..)
    have el : (l ++ List.replicate (z + 1) (0 : UInt8)).length = L + 1 := by have := HLz.out; simp; omega
    rw [el] at hO6 ⊢
    clear el
    go_wp2
    go_roundw
    case rel => exact ⟨z + 1, by have := HLz.out; omega, hO6⟩
    case measure => simp [sLen]; omega
   ·have hL32 : L = 32 := by omega
    subst hL32
    have hR : Rd wr (.slice a 32 cap) (nwH l) := by
     rw [nwH_pad l z HLz.out.symm]
     exact hO4.rd (List.mem_cons_self ..)
    have H3 : Hid (Rd wr (.slice a 32 cap) (nwH l)) := hR
    have HB3 : Hid (Below w1.heap.size w1 wr) := hO4.below
    have rz3 := HZ.out.kept HB3.out
    clear hR hO4 hz hlt
    go_wp2_with (first | refine wpList_buildB rfl 31 #[(0, .tmp 18), (1, .tmp 19)] rfl #[(0, .slice a 32 cap), (1, .slice a 32 cap)] (by go_simp) (.agg #[.slice a 32 cap, .slice a 32 cap, .slice none 0 0, .int .u64 0]) (build_sa2 _ _ _ _ _ _ _) ?_ | (refine wpList_store_part rfl 31 _ _ rfl rfl (saC (.slice a 32 cap) (.slice a 32 cap) (.slice none 0 0) 0) rfl [] (saC (.slice none 0 0) (.slice none 0 0) (.slice none 0 0) 0) [] (saC (.slice a 32 cap) (.slice a 32 cap) (.slice none 0 0) 0) rz3 (whole16 _) (whole16 _) rfl rfl (info_sa (.slice none 0 0) (.slice none 0 0) (.slice none 0 0) 0) (saC_all _ _ _ _ _ _ _ _ _ _) ?_; intro w7 r7 hw7))
    refine bodyPost_blk rfl rfl rfl r7 Tryz.underlying31 rfl (info_sa _ _ _ _) ?_
    exact ⟨_, rfl, H3.out.far16 rz3 (saC_no8 _ _ _ _ _ _ _ _ _ _) hw7, hw7.below _ _ z1 (stepB HB1.out HB3.out)⟩
theorem rdB_open {H : Type} {enc : TypeId × Value → H} {P : Program} {W : World} {base fuel : Nat} {spare : Nat → Bool} {held : Bool} {t e : TypeId} {v : Value} {x : DataW H × List MemPlace} (ht : P.underlying t = some (.slice e)) (he : P.underlying e = some (.int .u8)) (hc : P.cellsOf e = 1)
  (h : DataW.trod enc P W base spare held fuel t [v] = some x) : ∃ l, Rd W v l := by
 rcases open_ints ht he hc h with ⟨hcs, _⟩ | ⟨a, len, cap, zs, hcs, _, hl, hm, hz, _, hcell, hwz⟩
 ·simp at hcs
  subst hcs
  exact ⟨[], Rd.nil W⟩
 ·simp at hcs
  subst hcs
  have hzl : len ≤ zs.length := by rw [hz]; split <;> omega
  have hlen : ((zs.take len).map fun n => UInt8.ofNat n.toNat).length = len := by simp; omega
  refine ⟨(zs.take len).map fun n => UInt8.ofNat n.toNat, _, cap, by rw [hlen], by rw [hlen]; exact hl, hm, (fun h => by cases h), ?_⟩
  by_cases h0 : len = 0
  ·left; exact List.eq_nil_of_length_eq_zero (by rw [hlen]; exact h0)
  ·right
   obtain ⟨b, off, spot⟩ := a
   have hspot : spot = none := by simpa [Addr.add] using World.cell?_spot (hcell 0 (by omega))
   subst hspot
   refine ⟨b, off, rfl, fun i hi => ?_⟩
   rw [hlen] at hi
   have h1 := hcell i (by omega)
   have hplain : (⟨b, off, none⟩ : Addr).add i = ⟨b, off + i, none⟩ := by unfold Addr.add; split <;> simp_all
   rw [hplain] at h1
   rw [h1]
   have h2 : i < zs.length := by omega
   have h3 := wf_u8 (hwz zs[i] (List.getElem_mem h2))
   congr 2
   simp only [List.getD_eq_getElem?_getD, List.getElem?_map, List.getElem?_take, hi, if_true, List.getElem?_eq_getElem h2, Option.map_some, Option.getD_some, UInt8.toNat_ofNat']
   omega

theorem nat_of64 {a : Int} (h : (Lit.int .u64 a).wf = true) : ∃ n : Nat, a = (n : Int) ∧ n < 18446744073709551616 := by
 have h2 : 0 ≤ a ∧ a < 18446744073709551616 := by
  simp [Lit.wf, IntKind.min, IntKind.max, IntKind.bits, IntKind.signed] at h
  omega
 exact ⟨a.toNat, by omega, by omega⟩
theorem str_size16 (l : List UInt8) : (⟨l.toArray⟩ : ByteArray).size = l.length := by simp [ByteArray.size]

abbrev Acs := List (Int × List UInt8 × Nat)
def AcR (w : World) (v : Value) (ks : Acs) : Prop :=
 ∃ a cap, v = .slice a ks.length cap ∧ ks.length ≤ cap ∧ cap ≤ maxLen ∧ (ks = [] ∨ ∃ b off, a = some ⟨b, off, none⟩ ∧ ∀ k (h : k < ks.length), ∃ vb, w.cell? ⟨b, off + 3 * k, none⟩ = some (.int .i64 ks[k].1) ∧ w.cell? ⟨b, off + (3 * k + 1), none⟩ = some vb ∧ w.cell? ⟨b, off + (3 * k + 2), none⟩ = some (.int .u64 (ks[k].2.2 : Int)) ∧ Rd w vb ks[k].2.1)
theorem AcR.kept {w w' : World} {v : Value} {ks : Acs} (h : AcR w v ks) (hb : Below w.heap.size w w') : AcR w' v ks := by
 obtain ⟨a, cap, e, h1, h2, h3⟩ := h
 refine ⟨a, cap, e, h1, h2, h3.imp id ?_⟩
 rintro ⟨b, off, e2, hc⟩
 refine ⟨b, off, e2, fun k hk => ?_⟩
 obtain ⟨vb, c1, c2, c3, c4⟩ := hc k hk
 refine ⟨vb, ?_, ?_, ?_, c4.kept hb⟩
 ·rw [hb.cell (World.block_lt_of_cell? _ _ c1)]
  exact c1
 ·rw [hb.cell (World.block_lt_of_cell? _ _ c2)]
  exact c2
 ·rw [hb.cell (World.block_lt_of_cell? _ _ c3)]
  exact c3
theorem add_lit3 (b off i : Nat) : (⟨b, off, none⟩ : Addr).add i = ⟨b, off + i, none⟩ := by unfold Addr.add; split <;> simp_all
theorem add_three {b off i j : Nat} : ((⟨b, off, none⟩ : Addr).add (i * 3)).add j = ⟨b, off + (3 * i + j), none⟩ := by
 rw [add_lit3, add_lit3, Nat.mul_comm i 3, Nat.add_assoc]

set_option maxRecDepth 100000 in
set_option maxHeartbeats 1000000 in
theorem acts_open {H : Type} {enc : TypeId × Value → H} {W : World} {base fuel : Nat} {spare : Nat → Bool} {held : Bool} {v : Value} {x : DataW H × List MemPlace} (h : DataW.trod enc Tryz.prog W base spare held fuel 22 [v] = some x) :
  ∃ ks, AcR W v ks ∧ ∀ q ∈ ks, (Lit.int .i64 q.1).wf = true ∧ q.2.2 < 18446744073709551616 := by
 rcases Deep.open_slice Tryz.underlying22 h with ⟨e, -⟩ | ⟨a, len, cap, mm, n2, D, Pl, e, -, hl, hm, hmm, -, hc⟩
 ·simp at e
  subst e
  exact ⟨[], ⟨none, 0, rfl, Nat.le_refl _, Nat.zero_le _, .inl rfl⟩, by simp⟩
 ·simp at e
  subst e
  have hlm : len ≤ mm := by rw [hmm]; split <;> omega
  have k3 : Tryz.prog.cellsOf 34 = 3 := by kernel_rfl
  have k1 : Tryz.prog.cellsOf 3 = 1 := by kernel_rfl
  have k2 : Tryz.prog.cellsOf 26 = 1 := by kernel_rfl
  have k4 : Tryz.prog.cellsOf 27 = 1 := by kernel_rfl
  rw [k3] at hc
  have hall : ∀ i : Nat, ∃ q : Int × List UInt8 × Nat, i < len → ∃ vb, W.cell? ((a.add (i * 3)).add 0) = some (.int .i64 q.1) ∧ W.cell? ((a.add (i * 3)).add 1) = some vb ∧ W.cell? ((a.add (i * 3)).add 2) = some (.int .u64 (q.2.2 : Int)) ∧ Rd W vb q.2.1 ∧ (Lit.int .i64 q.1).wf = true ∧ q.2.2 < 18446744073709551616 := fun i => by
   by_cases hi : i < len
   ·obtain ⟨cs', h1, h2⟩ := hc i (by omega)
    obtain ⟨_, hlen, hcell⟩ := World.cells?_some h1
    obtain ⟨y0, y1, y2, n, -, -, g0, g1, g2⟩ := Deep.trod_struct3 Tryz.underlying34 h2
    match cs', hlen with
    | [v0, v1, v2], _ =>
     have e0 := hcell 0 (by simp)
     have e1 := hcell 1 (by simp)
     have e2 := hcell 2 (by simp)
     have g0' : DataW.trod enc Tryz.prog W base spare held n 3 [v0] = some y0 := by simpa [k1] using g0
     have g1' : DataW.trod enc Tryz.prog W base spare held n 26 [v1] = some y1 := by simpa [k2] using g1
     have g2' : DataW.trod enc Tryz.prog W base spare held n 27 [v2] = some y2 := by simpa [k4] using g2
     obtain ⟨z, ez, -, hz⟩ := DataW.trod_int Tryz.underlying3 g0'
     obtain ⟨m, em, -, hm⟩ := DataW.trod_int Tryz.underlying27 g2'
     obtain ⟨l, hr⟩ := rdB_open Tryz.underlying26 Tryz.underlying5 (by kernel_rfl) g1'
     simp at ez em
     have hm2 : 0 ≤ m ∧ m < 18446744073709551616 := by
      simp [Lit.wf, IntKind.min, IntKind.max, IntKind.bits, IntKind.signed] at hm
      omega
     refine ⟨(z, l, m.toNat), fun _ => ⟨v1, ?_, ?_, ?_, hr, hz, ?_⟩⟩
     ·simpa [ez] using e0
     ·simpa using e1
     ·have : ((m.toNat : Nat) : Int) = m := by omega
      rw [this]
      simpa [em] using e2
     ·show m.toNat < _
      omega
   ·exact ⟨(0, [], 0), fun h => absurd h hi⟩
  obtain ⟨F, hF⟩ := Classical.axiomOfChoice hall
  refine ⟨(List.range len).map F, ⟨some a, cap, by simp, by simpa using hl, hm, ?_⟩, fun q hq => ?_⟩
  ·by_cases h0 : len = 0
   ·left
    simp [h0]
   ·right
    obtain ⟨b, off, spot⟩ := a
    have hspot : spot = none := by
     obtain ⟨vb, h1, -⟩ := hF 0 (by omega)
     simpa [Addr.add] using World.cell?_spot h1
    subst hspot
    refine ⟨b, off, rfl, fun k hk => ?_⟩
    have hk' : k < len := by simpa using hk
    obtain ⟨vb, g1, g2, g3, g4, -⟩ := hF k hk'
    rw [add_three] at g1 g2 g3
    refine ⟨vb, ?_, g2, ?_, ?_⟩
    ·simpa using g1
    ·simpa using g3
    ·simpa using g4
  ·obtain ⟨k, hk, rfl⟩ := List.mem_map.1 hq
   obtain ⟨vb, -, -, -, -, g5, g6⟩ := hF k (List.mem_range.1 hk)
   exact ⟨g5, g6⟩

end Go.Proofs.YtdlmmcilembjgaaGreatDoor
