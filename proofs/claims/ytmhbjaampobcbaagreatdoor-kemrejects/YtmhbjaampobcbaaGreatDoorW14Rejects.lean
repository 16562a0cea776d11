/- What the law KemRejects answers at every input: the walk. -/
import Derived.Test.YtmhbjaampobcbaaGreatDoorXk
namespace Go.Proofs.YtmhbjaampobcbaaGreatDoor
open Go.ChangeShapes Go.WideShapes Go.ChangeAt Go.RowKit
set_option linter.unusedSimpArgs false
set_option linter.unusedVariables false

theorem opL_length (dk c : List UInt8) : (opL dk c).length = 32 := by
 unfold opL
 split
 ·rw [List.length_take]
  unfold opG
  rw [hsD_length]
  decide
 ·exact otL_length _ _ _
theorem bit_facts14 (r : Nat) (hr : r < 8) : ∃ (yb : UInt8) (P : Nat), yb.toNat = P ∧ (2 : Int) ^ r % 256 = (P : Int) := by
 have h : 2 ^ r ≤ 2 ^ 7 := Nat.pow_le_pow_right (by decide) (by omega)
 have h2 : (2 : Nat) ^ r < 256 := Nat.lt_of_le_of_lt h (by decide)
 refine ⟨UInt8.ofNat (2 ^ r), 2 ^ r, by rw [UInt8.toNat_ofNat', Nat.mod_eq_of_lt h2], ?_⟩
 rw [show (2 : Int) ^ r = ((2 ^ r : Nat) : Int) by simp]
 generalize 2 ^ r = x at h2
 omega

set_option maxRecDepth 100000 in
set_option maxHeartbeats 8000000 in
theorem rejects_walk (Da : Array Value) (d : List UInt8) (hd : d.length = 32) (hDa : Da = ((byI d).map (Value.int .u8)).toArray) (Za : Array Value) (z : List UInt8) (hz : z.length = 32) (hZa : Za = ((byI z).map (Value.int .u8)).toArray)
  (Ma : Array Value) (m : List UInt8) (hm : m.length = 32) (hMa : Ma = ((byI m).map (Value.int .u8)).toArray) (n : Int) (w : World) (hT : Tabs w) (hP : PwT w) :
  Calls Tryz.prog 7 #[.agg Da, .agg Za, .agg Ma, .int .i64 n] w fun e w' => e = .returned (.bool true) ∧ Below w.heap.size w w' := by
 have HDl : Hid (d.length = 32) := hd
 have HZl : Hid (z.length = 32) := hz
 have HMl : Hid (m.length = 32) := hm
 have HT : Hid (Tabs w) := hT
 have HP : Hid (PwT w) := hP
 clear hT hP
 go_enter Tryz.func7, Tryz.ntmps7
 go_wp2_with (refine wpList_box_row (k := .u8) rfl 29 _ rfl (byI d) (by rw [← hDa]; rfl) (ne14 hd) (max14 hd) ?_)
 intro w1 rd bn sn
 rw [byI_length, hd] at rd
 have hbw := bn
 clear bn sn hDa hd
 go_wp2_with (refine wpList_box_row (k := .u8) rfl 29 _ rfl (byI z) (by rw [← hZa]; rfl) (ne14 hz) (max14 hz) ?_)
 intro w2 rz bn sn
 rw [byI_length, hz] at rz
 replace rd := rd.kept bn
 replace hbw := stepB hbw bn
 clear bn sn hZa hz
 go_wp2_with (refine wpList_box_row (k := .u8) rfl 29 _ rfl (byI m) (by rw [← hMa]; rfl) (ne14 hm) (max14 hm) ?_)
 intro w3 rm bn sn
 rw [byI_length, hm] at rm
 replace rd := rd.kept bn
 replace rz := rz.kept bn
 replace hbw := stepB hbw bn
 clear bn sn hMa hm
 go_wp2_with fail
 refine (awake_any _ (HT.out.kept hbw) (HP.out.kept hbw)).mono ?_
 rintro e wa ⟨rfl, bn⟩
 have kd := (rd.kept bn).rdB
 have kz := (rz.kept bn).rdB
 have km := (rm.kept bn).rdB
 rw [HDl.out] at kd
 rw [HZl.out] at kz
 rw [HMl.out] at km
 have KD : Hid (Rd wa (.slice (some ⟨w.heap.size, 0, none⟩) 32 32) d) := kd
 have KZ : Hid (Rd wa (.slice (some ⟨w1.heap.size, 0, none⟩) 32 32) z) := kz
 have KM : Hid (Rd wa (.slice (some ⟨w2.heap.size, 0, none⟩) 32 32) m) := km
 replace hbw := stepB hbw bn
 have hbd := hbw.drew
 clear bn kd kz km rd rz rm
 go_wp2_with fail
 refine wpG_begin (by kernel_rfl) ?_
 refine wpG_t (i := 0) (oi := ⟨some 25, .slice 29 (.tmp 4) none none none, 22, "law.go:106", #[], none⟩) (v := ?_) ?_ ?_
 rotate_left
 ·intro W hW; go_simp <;> with_reducible rfl
 try simp only [Act.put, putA, putB, putC]
 refine wpG_t (i := 1) (oi := ⟨some 26, .slice 29 (.tmp 5) none none none, 22, "law.go:106", #[], none⟩) (v := ?_) ?_ ?_
 rotate_left
 ·intro W hW; go_simp <;> with_reducible rfl
 try simp only [Act.put, putA, putB, putC]
 refine wpG_do (i := 2) (o := ⟨some 27, .call { callee := .value (.func 9), args := #[.tmp 25, .tmp 26], argTypes := #[22, 22] }, 25, "law.go:106", #[⟨0, .data⟩, ⟨1, .data⟩], none⟩) (by kernel_rfl) rfl (by rfl) fun K hK => ?_
 go_simp
 refine (mgen_any _ _ d z _ (Rd.drew KD.out) (Rd.drew KZ.out) HDl.out HZl.out (HT.out.kept hbd) (HP.out.kept hbd)).mono ?_
 rintro e w4 ⟨x, y, rfl, hO⟩
 refine hK.out _ _ hO.below ?_
 clear hK K
 try simp only [Act.put, putA, putB, putC]
 refine wpG_t (i := 3) (oi := ⟨some 24, .move (.tmp 27), 25, "law.go:106", #[⟨2, .data⟩], none⟩) (v := ?_) ?_ ?_
 rotate_left
 ·intro W hW; go_simp <;> with_reducible rfl
 try simp only [Act.put, putA, putB, putC]
 refine wpG_t (i := 4) (oi := ⟨some 28, .extract (.tmp 24) 0, 22, "law.go:106", #[⟨3, .data⟩], none⟩) (v := ?_) ?_ ?_
 rotate_left
 ·intro W hW; go_simp <;> with_reducible rfl
 try simp only [Act.put, putA, putB, putC]
 refine wpG_t (i := 5) (oi := ⟨some 29, .extract (.tmp 24) 1, 22, "law.go:106", #[⟨3, .data⟩, ⟨7, .gcOnly .lateStores⟩], none⟩) (v := ?_) ?_ ?_
 rotate_left
 ·intro W hW; go_simp <;> with_reducible rfl
 try simp only [Act.put, putA, putB, putC]
 refine wpG_t (i := 6) (oi := ⟨some 30, .extract (.tmp 24) 2, 24, "law.go:106", #[⟨3, .data⟩, ⟨8, .gcOnly .lateStores⟩], none⟩) (v := ?_) ?_ ?_
 rotate_left
 ·intro W hW; go_simp <;> with_reducible rfl
 try simp only [Act.put, putA, putB, putC]
 refine wpG_t (i := 7) (oi := ⟨some 10, .assign (.tmp 28), 22, "law.go:106", #[⟨4, .data⟩, ⟨2, .chain⟩, ⟨0, .phase⟩, ⟨1, .phase⟩, ⟨2, .phase⟩, ⟨3, .phase⟩, ⟨4, .phase⟩, ⟨5, .textOnly .lateStores⟩, ⟨6, .textOnly .lateStores⟩], none⟩) (v := ?_) ?_ ?_
 rotate_left
 ·intro W hW; go_simp <;> with_reducible rfl
 try simp only [Act.put, putA, putB, putC]
 refine wpG_t (i := 8) (oi := ⟨some 11, .assign (.tmp 29), 22, "law.go:106", #[⟨5, .data⟩, ⟨7, .chain⟩, ⟨0, .phase⟩, ⟨1, .phase⟩, ⟨2, .phase⟩, ⟨3, .phase⟩, ⟨4, .phase⟩, ⟨5, .phase⟩, ⟨6, .textOnly .lateStores⟩, ⟨7, .phase⟩], none⟩) (v := ?_) ?_ ?_
 rotate_left
 ·intro W hW; go_simp <;> with_reducible rfl
 try simp only [Act.put, putA, putB, putC]
 refine wpG_t (i := 9) (oi := ⟨some 12, .assign (.tmp 30), 24, "law.go:106", #[⟨6, .data⟩, ⟨8, .chain⟩, ⟨0, .phase⟩, ⟨1, .phase⟩, ⟨2, .phase⟩, ⟨3, .phase⟩, ⟨4, .phase⟩, ⟨5, .phase⟩, ⟨6, .phase⟩, ⟨7, .phase⟩, ⟨8, .phase⟩], none⟩) (v := ?_) ?_ ?_
 rotate_left
 ·intro W hW; go_simp <;> with_reducible rfl
 try simp only [Act.put, putA, putB, putC]
 refine wpG_done (by kernel_rfl) ?_
 have LE : Hid ((ekL d).length = 1184) := ekL_length d
 have LD : Hid ((kdL d z).length = 2400) := kdL_length d z HZl.out
 have CE : Hid (ckE (ekL d) = 0) := ckE_key d
 have CD : Hid (cvE (kdL d z) = 0) := cvE_key d z HZl.out
 generalize ekL d = E at hO LE CE
 generalize kdL d z = D at hO LD CD
 have hx := hO.rd0
 have hy := hO.tail.rd0
 obtain ⟨ax, cx, rfl, -⟩ := id hx
 obtain ⟨ay, cy, rfl, -⟩ := id hy
 rw [LE.out] at hx ⊢
 rw [LD.out] at hy ⊢
 have HX : Hid (Rd w4 (.slice ax 1184 cx) E) := hx
 have HY : Hid (Rd w4 (.slice ay 2400 cy) D) := hy
 have HM4 : Hid (Rd w4 (.slice (some ⟨w2.heap.size, 0, none⟩) 32 32) m) := (Rd.drew KM.out).kept hO.below
 have hb4 := stepB hbd hO.below
 clear hx hy hO hbw hbd KD KZ KM
 go_wp2_with fail
 refine (mencaps_any _ _ E m _ HX.out HM4.out LE.out HMl.out CE.out (HT.out.kept hb4) (HP.out.kept hb4)).mono ?_
 rintro e w5 ⟨kv, c, rfl, -, hN5⟩
 have LC : Hid _ := ciL_length E m ((seG E m).drop 32)
 generalize ciL E m ((seG E m).drop 32) = S at hN5 LC
 obtain ⟨ac, cc, rfl, -⟩ := id hN5.rd
 rw [LC.out] at hN5 ⊢
 obtain ⟨X, hX, hXa⟩ := and_small n 65535 (by decide)
 have hXa' : bits .and .i64 n 65535 = (X : Int) := hXa
 obtain ⟨k, hk⟩ : ∃ k : Nat, k = X % 8704 := ⟨_, rfl⟩
 have hk8 : k < 8704 := by rw [hk]; exact Nat.mod_lt _ (by decide)
 have em : ((X : Int)).tmod 8704 = (k : Int) := by rw [Int.tmod_eq_emod_of_nonneg (by omega), hk]; omega
 have em2 : (X : Int) % 8704 = (k : Int) := by rw [hk]; omega
 have em3 : IntKind.i64.wrap (k : Int) = (k : Int) := IntWalk.i64_in _ (by omega)
 obtain ⟨q, hq⟩ : ∃ q : Nat, q = k / 8 := ⟨_, rfl⟩
 obtain ⟨r, hr⟩ : ∃ r : Nat, r = k % 8 := ⟨_, rfl⟩
 have hq8 : q < 1088 := by omega
 have hr8 : r < 8 := by omega
 have eq1 : ((k : Int)).tdiv 8 = (q : Int) := by rw [Int.tdiv_eq_ediv_of_nonneg (by omega), hq]; omega
 have eq2 : (k : Int) / 8 = (q : Int) := by rw [hq]; omega
 have eq3 : IntKind.i64.wrap (q : Int) = (q : Int) := IntWalk.i64_in _ (by omega)
 have er1 : ((k : Int)).tmod 8 = (r : Int) := by rw [Int.tmod_eq_emod_of_nonneg (by omega), hr]; omega
 have er2 : (k : Int) % 8 = (r : Int) := by rw [hr]; omega
 have er3 : IntKind.i64.wrap (r : Int) = (r : Int) := IntWalk.i64_in _ (by omega)
 have hqI : (q : Int) < 1088 := by omega
 obtain ⟨yb, P, hyb, es⟩ := bit_facts14 r hr8
 obtain ⟨gx, cx', ev, hcx, hcell, hfree, hset⟩ := hN5.store (j := q) (by rw [LC.out]; exact hq8)
 rw [LC.out] at ev hcx
 simp only [Value.slice.injEq, Option.some.injEq, Addr.mk.injEq, and_true, true_and] at ev
 obtain ⟨rfl, rfl⟩ := ev
 have hx7 := hset (S.getD q 0 ^^^ yb)
 rw [← byte_xor, hyb] at hx7
 have HL7 : Hid ((S.set q (S.getD q 0 ^^^ yb)).length = 1088) := by show _ = _; rw [List.length_set]; exact LC.out
 generalize S.set q (S.getD q 0 ^^^ yb) = S2 at hx7 HL7
 generalize ((S.getD q 0).toNat : Int) = G at hcell hx7
 have HB7 := hx7.2
 have hr7 := hx7.rd
 have HR7 : Hid (Rd (w5.setCell ⟨gx, q, none⟩ (.int .u8 (bits .xor .u8 G (P : Int)))) (.slice (some ⟨gx, 0, none⟩) 1088 cc) S2) := hr7
 have HB8 : Hid (Below w4.heap.size w4 (w5.setCell ⟨gx, q, none⟩ (.int .u8 (bits .xor .u8 G (P : Int))))) := HB7
 have HB4 : Hid _ := hb4
 have HOl : Hid _ := opL_length D S2
 clear hXa hk hq hr hset hx7 hN5 HB7 hr7 hyb hb4
 go_wp2_with fail
 refine (mdecaps_any _ _ D S2 _ (Rd.kept HY.out HB8.out) HR7.out LD.out HL7.out CD.out (HT.out.kept (stepB HB4.out HB8.out)) (HP.out.kept (stepB HB4.out HB8.out))).mono ?_
 rintro e w6 ⟨v6, rfl, hr6, b6⟩
 go_wp2_with fail
 refine (decaps14_any _ _ D S2 _ (Rd.kept HY.out (stepB HB8.out b6)) (Rd.kept HR7.out b6) LD.out HL7.out CD.out).mono ?_
 rintro e w7 ⟨v7, rfl, hr7, b7⟩
 replace hr6 := Rd.kept hr6 b7
 generalize opL D S2 = O at hr6 hr7 HOl
 obtain ⟨a6, c6, rfl, -⟩ := id hr6
 rw [HOl.out] at hr6 ⊢
 have hbw := stepB (stepB (stepB HB4.out HB8.out) b6) b7
 have c1 := convS hr6
 have c2 := convS hr7
 have e1 : (O == O) = true := by simp
 clear hr6 hr7 b6 b7
 go_wp2
 go_ret
 exact ⟨rfl, hbw⟩
end Go.Proofs.YtmhbjaampobcbaaGreatDoor
