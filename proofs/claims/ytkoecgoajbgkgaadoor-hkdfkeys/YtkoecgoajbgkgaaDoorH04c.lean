/- What Two and Three of package hkdf answer: the document's keys. -/
import Derived.Test.YtkoecgoajbgkgaaDoorH04b
import Derived.OwnWalk
namespace Go.Proofs.YtkoecgoajbgkgaaDoor
open Go.ChangeShapes Go.WideShapes Go.ChangeAt Go.RowKit
set_option linter.unusedSimpArgs false
set_option linter.unusedVariables false

theorem RdL.lit2b {w : World} {e : TypeId} {v1 v2 : Value} {l1 l2 : List UInt8} {b : Nat} (hb : b = w.heap.size) (h1 : Rd w v1 l1) (h2 : Rd w v2 l2) : RdL (w.alloc (.cells #[v1, v2] e)) (.slice (some ⟨b, 0, none⟩) 2 2) [v1, v2] [l1, l2] := by
  subst hb
  exact RdL.lit2 h1 h2

set_option maxRecDepth 100000 in
set_option maxHeartbeats 1000000 in
theorem hnext_any (vt vp : Value) (t p : List UInt8) (c : UInt8) (C : Int) (hC : C = (c.toNat : Int)) (hp : p.length ≤ 1000) (w : World) (hrt : Rd w vt t) (hrp : Rd w vp p) (ht : Tabs w) :
    Calls Tryd.prog 19 #[vt, vp, .int .u8 C] w fun e w' => ∃ v, e = .returned v ∧ New 5 w v (mcF t (p ++ [c])) w' := by
  obtain ⟨ap, cp, rfl, -, -, -, -⟩ := id hrp
  have g1 := growB (w := w) (.cells #[.int .u8 C] 5)
  have hc : Rd (w.alloc (.cells #[.int .u8 C] 5)) (.slice (some ⟨w.heap.size, 0, none⟩) 1 1) [c] := Rd.lit1 c hC
  have hL := RdL.lit2b (e := 22) (b := w.heap.size + 1) (by simp) (hrp.kept g1) hc
  have g2 := stepB g1 (growB (w := w.alloc (.cells #[.int .u8 C] 5)) (.cells #[.slice ap p.length cp, .slice (some ⟨w.heap.size, 0, none⟩) 1 1] 22))
  have hrt2 := hrt.kept g2
  have ht2 := ht.kept g2
  have h1 : totL [p, [c]] ≤ 1000000000 := by simp [totL]; omega
  have HT : Hid _ := h1
  have HL : Hid ((p ++ [c]).length ≤ 100000) := by show _ ≤ _; simp; omega
  clear hc hrp hrt ht h1 hp hC g1
  go_enter Tryd.func19, Tryd.ntmps19
  go_wp2_with fail
  refine (join_any _ _ _ _ hL HT.out).mono ?_
  rintro e w3 ⟨v3, rfl, hN3⟩
  have hR3 := hN3.two.rd
  have b3 := stepB g2 hN3.2
  have hrt3 := hrt2.kept hN3.2
  have ht3 := ht2.kept hN3.2
  clear hN3 hrt2 ht2 hL g2
  go_wp2_with fail
  refine (mac_any _ _ t (p ++ [c]) HL.out _ hrt3 hR3 ht3).mono ?_
  rintro e w4 ⟨v4, rfl, hN4⟩
  go_wp2
  go_ret
  exact ⟨_, rfl, hN4.from b3⟩

set_option maxRecDepth 100000 in
set_option maxHeartbeats 1000000 in
theorem two_any (vk vb : Value) (k b : List UInt8) (hbl : b.length ≤ 100000) (w : World) (hrk : Rd w vk k) (hrb : Rd w vb b) (ht : Tabs w) :
    Calls Tryd.prog 11 #[vk, vb] w fun e w' => ∃ v1 v2, e = .returned (.tuple #[v1, v2]) ∧ Rd w' v1 (k1F k b) ∧ Rd w' v2 (k2F k b) ∧ Below w.heap.size w w' := by
  have h1 : (k1F k b).length = 32 := mcF_length _ _
  go_enter Tryd.func11, Tryd.ntmps11
  go_wp2_with fail
  refine (mac_any _ _ k b hbl _ hrk hrb ht).mono ?_
  rintro e w1 ⟨vt, rfl, hN1⟩
  have hT1 := hN1.rd
  have ht1 := ht.kept hN1.2
  have b1 := hN1.2
  clear hN1 hrk hrb ht
  go_wp2_with fail
  refine (hnext_any _ _ (mcF k b) [] 1 1 rfl (by simp) _ hT1 (Rd.nil _) ht1).mono ?_
  rintro e w2 ⟨va, rfl, hN2⟩
  have hA2 : Rd w2 va (k1F k b) := hN2.rd
  have hT2 := hT1.kept hN2.2
  have ht2 := ht1.kept hN2.2
  have b2 := stepB b1 hN2.2
  clear hN2 hT1 ht1 b1
  go_wp2_with fail
  refine (hnext_any _ _ (mcF k b) (k1F k b) 2 2 rfl (by omega) _ hT2 hA2 ht2).mono ?_
  rintro e w3 ⟨vc, rfl, hN3⟩
  have hC3 : Rd w3 vc (k2F k b) := hN3.rd
  have hA3 := hA2.kept hN3.2
  have b3 := stepB b2 hN3.2
  go_wp2
  go_ret2
  exact ⟨_, _, rfl, hA3, hC3, b3⟩

set_option maxRecDepth 100000 in
set_option maxHeartbeats 1000000 in
theorem three_any (vk vb : Value) (k b : List UInt8) (hbl : b.length ≤ 100000) (w : World) (hrk : Rd w vk k) (hrb : Rd w vb b) (ht : Tabs w) :
    Calls Tryd.prog 12 #[vk, vb] w fun e w' => ∃ v1 v2 v3, e = .returned (.tuple #[v1, v2, v3]) ∧ Rd w' v1 (k1F k b) ∧ Rd w' v2 (k2F k b) ∧ Rd w' v3 (k3F k b) ∧ Below w.heap.size w w' := by
  have h1 : (k1F k b).length = 32 := mcF_length _ _
  have h2 : (k2F k b).length = 32 := mcF_length _ _
  go_enter Tryd.func12, Tryd.ntmps12
  go_wp2_with fail
  refine (mac_any _ _ k b hbl _ hrk hrb ht).mono ?_
  rintro e w1 ⟨vt, rfl, hN1⟩
  have hT1 := hN1.rd
  have ht1 := ht.kept hN1.2
  have b1 := hN1.2
  clear hN1 hrk hrb ht
  go_wp2_with fail
  refine (hnext_any _ _ (mcF k b) [] 1 1 rfl (by simp) _ hT1 (Rd.nil _) ht1).mono ?_
  rintro e w2 ⟨va, rfl, hN2⟩
  have hA2 : Rd w2 va (k1F k b) := hN2.rd
  have hT2 := hT1.kept hN2.2
  have ht2 := ht1.kept hN2.2
  have b2 := stepB b1 hN2.2
  clear hN2 hT1 ht1 b1
  go_wp2_with fail
  refine (hnext_any _ _ (mcF k b) (k1F k b) 2 2 rfl (by omega) _ hT2 hA2 ht2).mono ?_
  rintro e w3 ⟨vc, rfl, hN3⟩
  have hC3 : Rd w3 vc (k2F k b) := hN3.rd
  have hA3 := hA2.kept hN3.2
  have hT3 := hT2.kept hN3.2
  have ht3 := ht2.kept hN3.2
  have b3 := stepB b2 hN3.2
  clear hN3 hA2 hT2 ht2 b2
  go_wp2_with fail
  refine (hnext_any _ _ (mcF k b) (k2F k b) 3 3 rfl (by omega) _ hT3 hC3 ht3).mono ?_
  rintro e w4 ⟨vd, rfl, hN4⟩
  have hD4 : Rd w4 vd (k3F k b) := hN4.rd
  have hA4 := hA3.kept hN4.2
  have hC4 := hC3.kept hN4.2
  have b4 := stepB b3 hN4.2
  go_wp2
  go_ret3
  exact ⟨_, _, _, rfl, hA4, hC4, hD4, b4⟩
end Go.Proofs.YtkoecgoajbgkgaaDoor
