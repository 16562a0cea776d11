/- That the program is awake: what the code of nothing begins with. -/
import Derived.Test.YtkoecgoajbgkgaaDoorH04c
import Derived.Test.YtkoecgoajbgkgaaDoorHEvA
import Derived.Test.YtkoecgoajbgkgaaDoorHEvB
namespace Go.Proofs.YtkoecgoajbgkgaaDoor
open Go.ChangeShapes Go.WideShapes Go.ChangeAt Go.RowKit
set_option linter.unusedSimpArgs false
set_option linter.unusedVariables false

set_option maxRecDepth 100000 in
set_option maxHeartbeats 1000000 in
theorem awake_any (w : World) (ht : Tabs w) : Calls Tryd.prog 8 #[] w fun e w' => e = .returned (.bool true) ∧ Below w.heap.size w w' := by
  go_enter Tryd.func8, Tryd.ntmps8
  go_wp2_with fail
  refine (mac_any _ _ [] [] (by simp) _ (Rd.nil _) (Rd.nil _) ht).mono ?_
  rintro e w1 ⟨va, rfl, hN1⟩
  have b1 := hN1.2
  have hA1 := hN1.rd
  have ht1 := ht.kept b1
  have g1 := growB (w := w1) (.cells #[.int .u8 1] 5)
  have r1 : Rd (w1.alloc (.cells #[.int .u8 1] 5)) (.slice (some ⟨w1.heap.size, 0, none⟩) 1 1) [1] := Rd.lit1 1 rfl
  have ht1' := ht1.kept g1
  have b1' := stepB b1 g1
  have hA1' := hA1.kept g1
  clear hN1 ht ht1 b1 hA1 g1
  go_wp2_with fail
  refine (two_any _ _ [1] [] (by simp) _ r1 (Rd.nil _) ht1').mono ?_
  rintro e w2 ⟨vb, vc, rfl, hb2, hc2, B2⟩
  have b2 := stepB b1' B2
  have hA2 := hA1'.kept B2
  have ht2 := ht1'.kept B2
  have g2 := growB (w := w2) (.cells #[.int .u8 1] 5)
  have r2 : Rd (w2.alloc (.cells #[.int .u8 1] 5)) (.slice (some ⟨w2.heap.size, 0, none⟩) 1 1) [1] := Rd.lit1 1 rfl
  have ht2' := ht2.kept g2
  have b2' := stepB b2 g2
  have hA2' := hA2.kept g2
  have lb : (k1F [1] []).length = 32 := mcF_length _ _
  have lc : (k2F [1] []).length = 32 := mcF_length _ _
  have ld : (k3F [1] []).length = 32 := mcF_length _ _
  have la : (mcF [] []).length = 32 := mcF_length _ _
  obtain ⟨ab, cb, rfl, -, -, -, -⟩ := id hb2
  obtain ⟨ac, cc, rfl, -, -, -, -⟩ := id hc2
  rw [lb, lc]
  clear hb2 hc2 lb lc r1 ht1' b1' hA1' B2 ht2 b2 hA2 g2
  go_wp2_with fail
  refine (three_any _ _ [1] [] (by simp) _ r2 (Rd.nil _) ht2').mono ?_
  rintro e w3 ⟨vd, ve, vf, rfl, hd3, he3, hf3, B3⟩
  have b3 := stepB b2' B3
  have hA3 := hA2'.kept B3
  obtain ⟨af, cf, rfl, -, -, -, -⟩ := id hf3
  rw [ld]
  obtain ⟨bb, off, cc0, ev, hcap, hc0, -⟩ := hA3.cellAt (i := 0) (by omega)
  subst ev
  obtain ⟨bb1, off1, cc1, ev, -, hc1, -⟩ := hA3.cellAt (i := 1) (by omega)
  simp only [Value.slice.injEq, Option.some.injEq, Addr.mk.injEq, and_true] at ev
  obtain ⟨⟨rfl, rfl⟩, -, rfl⟩ := ev
  rw [mac_0, Nat.add_zero, show (((232 : UInt8).toNat : Nat) : Int) = 232 from rfl] at hc0
  rw [mac_1, show (((65 : UInt8).toNat : Nat) : Int) = 65 from rfl] at hc1
  rw [la] at hcap ⊢
  have HB : Hid _ := b3
  clear hd3 he3 hf3 B3 b3 hA3 hA2' b2' ht2' r2 ld la
  go_wp2
  go_ret
  exact ⟨rfl, HB.out⟩
end Go.Proofs.YtkoecgoajbgkgaaDoor
