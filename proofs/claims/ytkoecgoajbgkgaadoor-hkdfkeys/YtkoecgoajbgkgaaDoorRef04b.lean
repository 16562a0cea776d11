/- What the document's own three keys are: a contract of the reference of layer 4. -/
import Derived.Test.YtkoecgoajbgkgaaDoorRef04a
import Derived.OwnWalk
namespace Go.Proofs.YtkoecgoajbgkgaaDoor
open Go.ChangeShapes Go.WideShapes Go.ChangeAt Go.RowKit
set_option linter.unusedSimpArgs false
set_option linter.unusedVariables false

set_option maxRecDepth 100000 in
set_option maxHeartbeats 4000000 in
theorem threeR_any (vk vb : Value) (k b : List UInt8) (hk : k.length ≤ 100000) (hbl : b.length ≤ 100000) (w : World) (hrk : Rd w vk k) (hrb : Rd w vb b) :
    Calls Tryd.prog 13 #[vk, vb] w fun e w' => ∃ v1 v2 v3, e = .returned (.tuple #[v1, v2, v3]) ∧ Rd w' v1 (k1F k b) ∧ Rd w' v2 (k2F k b) ∧ Rd w' v3 (k3F k b) ∧ Below w.heap.size w w' := by
  have hm := mcF_length k b
  have h1 : (k1F k b).length = 32 := mcF_length _ _
  have h2 : (k2F k b).length = 32 := mcF_length _ _
  go_enter Tryd.func13, Tryd.ntmps13
  go_wp2_with fail
  refine (macR_any _ _ k b hk hbl _ hrk hrb).mono ?_
  rintro e w1 ⟨vt, rfl, hT1, hB1⟩
  have r1 : Rd (w1.alloc (.cells #[.int .u8 1] 5)) (.slice (some ⟨w1.heap.size, 0, none⟩) 1 1) [1] := Rd.lit1 1 rfl
  have hT2 := hT1.kept (growB (.cells #[.int .u8 1] 5))
  have hb1 := stepB hB1 (growB (.cells #[.int .u8 1] 5))
  go_wp2_with fail
  refine (macR_any _ _ (mcF k b) [1] (by omega) (by simp) _ hT2 r1).mono ?_
  rintro e w2 ⟨va, rfl, hA2, hB2⟩
  have hT3 := hT2.kept hB2
  have hb2 := stepB hb1 hB2
  have hO2 : Own 5 w2 [(.slice none 0 0, [])] w2 := (Own.start 5 w2).nil
  have hA2' : Rd w2 va (k1F k b) := hA2
  clear r1 hT1 hT2 hB1 hB2 hb1 hA2
  go_wp2_with (at_builtin; go_must (refine wpList_append_Own (w0 := w2) rfl _ _ 22 rfl Tryd.underlying22 infoU8 _ _ rfl hO2 _ _ rfl hA2' (by simp; omega) ?_))
  intro x3 w3 hO3
  have r3 : Rd (w3.alloc (.cells #[.int .u8 2] 5)) (.slice (some ⟨w3.heap.size, 0, none⟩) 1 1) [2] := Rd.lit1 2 rfl
  have hO4 := hO3.kept (growB (.cells #[.int .u8 2] 5))
  have hlen : (k1F k b).length + [(2 : UInt8)].length ≤ 140737488355328 := by simp; omega
  clear hO2 hO3
  go_wp2_with (at_builtin; go_must (refine wpList_append_Own (w0 := w2) rfl _ _ 22 rfl Tryd.underlying22 infoU8 _ _ rfl hO4 _ _ rfl r3 hlen ?_))
  intro x5 w5 hO5
  have hT5 := hT3.kept hO5.below
  have hA5 := hA2'.kept hO5.below
  have hX5 := hO5.rd (List.mem_cons_self ..)
  have hb5 := stepB hb2 hO5.below
  clear hO4 r3 hlen hO5 hT3 hA2' hb2
  go_wp2_with fail
  refine (macR_any _ _ (mcF k b) (k1F k b ++ [2]) (by omega) (by simp; omega) _ hT5 hX5).mono ?_
  rintro e w6 ⟨vq, rfl, hQ6, hB6⟩
  have hQ6' : Rd w6 vq (k2F k b) := hQ6
  have hT6 := hT5.kept hB6
  have hA6 := hA5.kept hB6
  have hb6 := stepB hb5 hB6
  have hO6 : Own 5 w6 [(.slice none 0 0, [])] w6 := (Own.start 5 w6).nil
  clear hQ6 hT5 hA5 hX5 hb5 hB6
  go_wp2_with (at_builtin; go_must (refine wpList_append_Own (w0 := w6) rfl _ _ 22 rfl Tryd.underlying22 infoU8 _ _ rfl hO6 _ _ rfl hQ6' (by simp; omega) ?_))
  intro x7 w7 hO7
  have r7 : Rd (w7.alloc (.cells #[.int .u8 3] 5)) (.slice (some ⟨w7.heap.size, 0, none⟩) 1 1) [3] := Rd.lit1 3 rfl
  have hO8 := hO7.kept (growB (.cells #[.int .u8 3] 5))
  have hlen : (k2F k b).length + [(3 : UInt8)].length ≤ 140737488355328 := by simp; omega
  clear hO6 hO7
  go_wp2_with (at_builtin; go_must (refine wpList_append_Own (w0 := w6) rfl _ _ 22 rfl Tryd.underlying22 infoU8 _ _ rfl hO8 _ _ rfl r7 hlen ?_))
  intro x9 w9 hO9
  have hT9 := hT6.kept hO9.below
  have hA9 := hA6.kept hO9.below
  have hQ9 := hQ6'.kept hO9.below
  have hX9 := hO9.rd (List.mem_cons_self ..)
  have hb9 := stepB hb6 hO9.below
  clear hO8 r7 hlen hO9 hT6 hA6 hQ6' hb6
  go_wp2_with fail
  refine (macR_any _ _ (mcF k b) (k2F k b ++ [3]) (by omega) (by simp; omega) _ hT9 hX9).mono ?_
  rintro e w10 ⟨vz, rfl, hZ, hB10⟩
  have hb10 := stepB hb9 hB10
  have hA10 := hA9.kept hB10
  have hQ10 := hQ9.kept hB10
  go_wp2
  go_ret3
  exact ⟨_, _, _, rfl, hA10, hQ10, hZ, hb10⟩
end Go.Proofs.YtkoecgoajbgkgaaDoor
