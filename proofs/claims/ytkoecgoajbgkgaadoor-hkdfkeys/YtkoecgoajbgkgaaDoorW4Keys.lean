/- What the law HkdfKeys answers at every input: the walk. -/
import Derived.Test.YtkoecgoajbgkgaaDoorH04d
import Derived.Test.YtkoecgoajbgkgaaDoorRef04b
namespace Go.Proofs.YtkoecgoajbgkgaaDoor
open Go.ChangeShapes Go.WideShapes Go.ChangeAt Go.RowKit
set_option linter.unusedSimpArgs false
set_option linter.unusedVariables false

set_option maxRecDepth 100000 in
set_option maxHeartbeats 2000000 in
theorem keys_walk (vk vb : Value) (k b : List UInt8) (w : World) (hrk : Rd w vk k) (hrb : Rd w vb b) (ht : Tabs w) :
    Calls Tryd.prog 4 #[vk, vb] w fun e w' => e = .returned (.bool true) ∧ Below w.heap.size w w' := by
  obtain ⟨ak, ck, rfl, -, hmk, -, -⟩ := id hrk
  obtain ⟨ab, cb, rfl, -, hmb, -, -⟩ := id hrb
  unfold maxLen at hmk hmb
  by_cases hk : k.length ≤ 1000
  · have d1 : decide ((1000 : Int) < (k.length : Int)) = false := decide_eq_false (by omega)
    have g1 : (k.length : Int) ≤ 1000 := by omega
    by_cases hb : b.length ≤ 1000
    · have d2 : decide ((1000 : Int) < (b.length : Int)) = false := decide_eq_false (by omega)
      have g2 : (b.length : Int) ≤ 1000 := by omega
      have HK : Hid (k.length ≤ 1000) := hk
      have HL : Hid (b.length ≤ 1000) := hb
      clear hk hb
      go_enter Tryd.func4, Tryd.ntmps4
      go_wp2_with fail
      refine (awake_any _ ht).mono ?_
      rintro e w1 ⟨rfl, hB1⟩
      have hrk1 := hrk.kept hB1
      have hrb1 := hrb.kept hB1
      have ht1 := ht.kept hB1
      clear hrk hrb ht
      go_wp2_with fail
      refine (two_any _ _ k b (by have := HL.out; omega) _ hrk1 hrb1 ht1).mono ?_
      rintro e w2 ⟨va, vc, rfl, ha2, hc2, B2⟩
      have hrk2 := hrk1.kept B2
      have hrb2 := hrb1.kept B2
      have ht2 := ht1.kept B2
      have b2 := stepB hB1 B2
      clear hrk1 hrb1 ht1 hB1 B2
      go_wp2_with fail
      refine (three_any _ _ k b (by have := HL.out; omega) _ hrk2 hrb2 ht2).mono ?_
      rintro e w3 ⟨v3, v4, v5, rfl, h3, h4, h5, B3⟩
      have hrk3 := hrk2.kept B3
      have hrb3 := hrb2.kept B3
      have b3 := stepB b2 B3
      have ha3 := ha2.kept B3
      have hc3 := hc2.kept B3
      clear hrk2 hrb2 ht2 b2 ha2 hc2 B3
      go_wp2_with fail
      refine (threeR_any _ _ k b (by have := HK.out; omega) (by have := HL.out; omega) _ hrk3 hrb3).mono ?_
      rintro e w4 ⟨v6, v7, v8, rfl, h6, h7, h8, B4⟩
      have HB : Hid _ := stepB b3 B4
      have s1 := convS (ha3.kept B4)
      have s2 := convS (hc3.kept B4)
      have s3 := convS (h3.kept B4)
      have s4 := convS (h4.kept B4)
      have s5 := convS (h5.kept B4)
      have s6 := convS h6
      have s7 := convS h7
      have s8 := convS h8
      clear ha3 hc3 h3 h4 h5 h6 h7 h8 hrk3 hrb3 b3 B4
      go_wp2
      go_ret
      exact ⟨rfl, HB.out⟩
    · have d2 : decide ((1000 : Int) < (b.length : Int)) = true := decide_eq_true (by omega)
      have g2 : (1000 : Int) < (b.length : Int) := by omega
      go_enter Tryd.func4, Tryd.ntmps4
      go_wp2_with fail
      refine (awake_any _ ht).mono ?_
      rintro e w1 ⟨rfl, hB1⟩
      go_wp2
      go_ret
      exact ⟨rfl, hB1⟩
  · have d1 : decide ((1000 : Int) < (k.length : Int)) = true := decide_eq_true (by omega)
    have g1 : (1000 : Int) < (k.length : Int) := by omega
    go_enter Tryd.func4, Tryd.ntmps4
    go_wp2_with fail
    refine (awake_any _ ht).mono ?_
    rintro e w1 ⟨rfl, hB1⟩
    go_wp2
    go_ret
    exact ⟨rfl, hB1⟩
end Go.Proofs.YtkoecgoajbgkgaaDoor
