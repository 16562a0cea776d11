/- The statement's own examples come out true in every memory. -/
import Derived.Test.YticjhpclpealmaaE
namespace Go.Proofs.Yticjhpclpealmaa
open Go.ChangeShapes Go.WideShapes Go.ChangeAt Go.RowKit

theorem conv_any {w : World} {v : Value} {l : List UInt8} (h : Rd w v l) : (convert 22 9 v).run Try.prog w = .ok (.string ⟨l.toArray⟩) w :=
  h.conv Try.underlying22 Try.underlying5 Try.underlying9

set_option maxHeartbeats 1000000 in
theorem awake_any (w : World) : Calls Try.prog 9 #[] w fun e w' => e = .returned (.bool true) ∧ Below w.heap.size w w' := by
  go_enter Try.func9, Try.ntmps9
  go_wp2_with fail
  refine (load_any _ [1, 2, 0, 0] _ (Rd.litc [1, 2, 0, 0] (by simp [bv]) rfl (by simp) (by simp [maxLen]))).mono ?_
  rintro e w1 ⟨rfl, rfl⟩
  rw [show leN ([1, 2, 0, 0].take 8) = 513 from by decide]
  go_wp2_with fail
  refine (store_k 513 3 3 (by omega) (by omega) _).mono ?_
  rintro e w1 ⟨v1, rfl, hN1⟩
  have hB1 : Below w.heap.size w w1 := bstep (below_alloc w _) hN1.2
  rw [show (List.range 3).map (stB 513) = [1, 2, 0] from by decide] at hN1
  have hc1 := conv_any hN1.rd
  clear hN1
  go_wp2_with fail
  clear hc1
  refine (xor_any _ _ [5, 6, 7] [1, 1] _ ((Rd.litc [5, 6, 7] (by simp [bv]) rfl (by simp) (by simp [maxLen])).kept (below_alloc _ _)) (Rd.litc [1, 1] (by simp [bv]) rfl (by simp) (by simp [maxLen])) (by simp)).mono ?_
  rintro e w2 ⟨v2, rfl, hN2⟩
  have hB2 : Below w.heap.size w w2 := bstep hB1 (bstep (below_alloc w1 _) (bstep (below_alloc _ _) hN2.2))
  rw [show xorL [5, 6, 7] [1, 1] = [4, 7] from by decide] at hN2
  have hc2 := conv_any hN2.rd
  clear hN2 hB1
  go_wp2_with fail
  clear hc2
  refine (equal_any _ _ [1] [1] _ ((Rd.litc [1] (by simp [bv]) rfl (by simp) (by simp [maxLen])).kept (below_alloc _ _)) (Rd.litc [1] (by simp [bv]) rfl (by simp) (by simp [maxLen]))).mono ?_
  rintro e w3 ⟨rfl, hE3⟩
  have hB3 : Below w.heap.size w w3 := bstep hB2 (bstep (below_alloc w2 _) (bstep (below_alloc _ _) hE3))
  rw [show decide (([1] : List UInt8) = [1]) = true from by decide]
  clear hE3 hB2
  go_wp2_with fail
  refine (equal_any _ _ [1] [2] _ ((Rd.litc [1] (by simp [bv]) rfl (by simp) (by simp [maxLen])).kept (below_alloc _ _)) (Rd.litc [2] (by simp [bv]) rfl (by simp) (by simp [maxLen]))).mono ?_
  rintro e w4 ⟨rfl, hE4⟩
  have hB4 : Below w.heap.size w w4 := bstep hB3 (bstep (below_alloc w3 _) (bstep (below_alloc _ _) hE4))
  rw [show decide (([1] : List UInt8) = [2]) = false from by decide]
  clear hE4 hB3
  go_wp2_with fail
  refine (zero_any _ [] _ (Rd.nil _)).mono ?_
  rintro e w5 ⟨rfl, rfl⟩
  rw [show decide (orL [] = 0) = true from by decide]
  go_wp2_with fail
  refine (select_yes 1 255 _ _ [1] [2] [2] _ ((Rd.litc [1] (by simp [bv]) rfl (by simp) (by simp [maxLen])).kept (below_alloc _ _)) (Rd.litc [2] (by simp [bv]) rfl (by simp) (by simp [maxLen])) rfl (by simp) (.inr ⟨rfl, rfl, rfl⟩)).mono ?_
  rintro e w6 ⟨v6, rfl, hN6⟩
  have hB6 : Below w.heap.size w w6 := bstep hB4 (bstep (below_alloc w5 _) (bstep (below_alloc _ _) hN6.2))
  have hc6 := conv_any hN6.rd
  clear hN6 hB4
  go_wp2_with fail
  clear hc6
  have hr1 : Rd (w6.alloc (.cells #[.int .u8 1] 5)) (.slice (some ⟨w6.heap.size, 0, none⟩) 1 1) [1] := Rd.litc [1] (by simp [bv]) rfl (by simp) (by simp [maxLen])
  have hr2 : Rd ((w6.alloc (.cells #[.int .u8 1] 5)).alloc (.cells #[.int .u8 2] 5)) (.slice (some ⟨w6.heap.size + 1, 0, none⟩) 1 1) [2] := Rd.litc [2] (by simp [bv]) rfl (by simp) (by simp [maxLen])
  refine (join_any _ [.slice (some ⟨w6.heap.size, 0, none⟩) 1 1, .slice none 0 0, .slice (some ⟨w6.heap.size + 1, 0, none⟩) 1 1] [[1], [], [2]] _ (RdL.lit _ _ rfl rfl (by simp) (by simp [maxLen]) rfl ?_) (by decide)).mono ?_
  · intro i hi
    match i, hi with
    | 0, _ => exact hr1.kept (below_alloc _ _)
    | 1, _ => exact Rd.nil _
    | 2, _ => exact hr2
  rintro e w7 ⟨v7, rfl, hN7⟩
  have hB7 : Below w.heap.size w w7 := bstep hB6 (bstep (below_alloc w6 _) (bstep (below_alloc _ _) (bstep (below_alloc _ _) hN7.2)))
  have hc7 := conv_any hN7.rd
  rw [show ([[1], [], [2]] : List (List UInt8)).flatten = [1, 2] from by decide] at hc7
  clear hN7 hB6 hr1 hr2
  go_wp2
  go_ret
  exact ⟨rfl, hB7⟩


theorem equal_bool (va vb : Value) (la lb : List UInt8) (b : Bool) (hab : decide (la = lb) = b) (w : World) (ha : Rd w va la) (hb : Rd w vb lb) :
    Calls Try.prog 17 #[va, vb] w fun e w' => e = .returned (.bool b) ∧ Below w.heap.size w w' := by
  subst hab; exact equal_any va vb la lb w ha hb
theorem zero_bool (v : Value) (l : List UInt8) (b : Bool) (hb : decide (orL l = 0) = b) (w : World) (hr : Rd w v l) :
    Calls Try.prog 19 #[v] w fun e w' => e = .returned (.bool b) ∧ w' = w := by
  subst hb; exact zero_any v l w hr
end Go.Proofs.Yticjhpclpealmaa
