/- What the document's own comparison of states answers: a contract of the reference of layer 2. -/
import Derived.Test.YthajkimmnceoiaaDoorLibI
import Derived.Test.YthajkimmnceoiaaDoorKMath5
import Derived.Test.YthajkimmnceoiaaDoorRows
import Derived.Deep.QuietTactic
import Derived.BigQuiet
namespace Go.Proofs.YthajkimmnceoiaaDoor
open Go.ChangeShapes Go.WideShapes Go.ChangeAt Go.RowKit
set_option linter.unusedSimpArgs false
set_option linter.unusedVariables false

theorem below_drewNI {B : Nat} {w wr : World} (h : Below B w wr) : ∀ n, Below B w (wr.drewN n)
  | 0 => h
  | n + 1 => (below_drewNI h n).drew

set_option maxHeartbeats 1000000 in
theorem same_any (A : Array Value) (f g : Nat → Nat) (hA : A = ((stL f).map (Value.int .u64)).toArray) (vb : Value) (w : World) (hr : RdI .u64 w vb (stL g)) :
    Calls Tryd.prog 9 #[.agg A, vb] w fun e w' => e = .returned (.bool (decide (stL f = stL g))) ∧ Below w.heap.size w w' := by
  have hN : NewI .u64 26 w (.slice (some ⟨w.heap.size, 0, none⟩) 25 25) (stL f) (w.alloc (.cells ((stL f).map (Value.int .u64)).toArray 26)) :=
    NewI.lit (stL f) rfl (stL_length f).symm rfl (by rw [stL_length]; simp [maxLen])
  obtain ⟨gs, caps, es, hgs, hrow⟩ := hN.row (stL_ne f)
  simp only [Value.slice.injEq, Option.some.injEq, Addr.mk.injEq, and_true, true_and] at es
  obtain ⟨rfl, -, rfl⟩ := es
  have HR : Hid (RdI .u64 (w.alloc (.cells ((stL f).map (Value.int .u64)).toArray 26)) vb (stL g)) := hr.kept (growB _)
  have HW : Hid _ := hrow
  have HB : Hid (Below w.heap.size w (w.alloc (.cells ((stL f).map (Value.int .u64)).toArray 26))) := growB _
  clear hN hr hrow
  go_enter Tryd.func9, Tryd.ntmps9
  go_wp2
  generalize w.alloc (.cells ((stL f).map (Value.int .u64)).toArray 26) = W at HR HW HB
  go_loopw [5] (fun i wr => ∃ j : Nat, j ≤ 25 ∧ i = .int .i64 j ∧ Hid (∀ i, i < j → f i = g i) ∧ Below W.heap.size W wr) (fun i _ => 25 - (intOf i).toNat)
  case atStart => exact ⟨0, by omega, rfl, fun i hi => absurd hi (Nat.not_lt_zero _), Below.refl _ _⟩
  case round =>
    obtain ⟨j, hj, rfl, HE, hB⟩ := hrel
    by_cases hlt : j < 25
    · have hca := (RowAt.kept HW.out hB).cell (j := j) (by rw [stL_length]; exact hlt)
      obtain ⟨b, off, cap, ev, hcap, hcb, _⟩ := (RdI.kept HR.out hB).cellAt (i := j) (by rw [stL_length]; exact hlt)
      rw [stL_get f j hlt] at hca
      rw [stL_get g j hlt] at hcb
      rw [stL_length] at ev hcap
      subst ev
      have hd : decide ((j : Int) < 25) = true := decide_eq_true (by omega)
      have hjI : (j : Int) < 25 := by omega
      by_cases hfg : f j = g j
      · have HE2 : Hid (∀ i, i < j + 1 → f i = g i) := fun i hi => by
          by_cases h : i = j
          · subst h; exact hfg
          · exact HE.out i (by omega)
        have hne : (((f j : Nat) : Int) != ((g j : Nat) : Int)) = false := by rw [hfg]; simp
        generalize f j = q1 at hca hne
        generalize g j = q2 at hcb hne
        clear hfg
        go_wp2
        go_quiet (fail)
        go_wp2
        go_roundw
        case rel => exact ⟨j + 1, by omega, by go_num, HE2, below_drewNI hB _⟩
        case measure => simp [intOf]; omega
      · have hfin : decide (stL f = stL g) = false := decide_eq_false fun h => hfg (stL_inj h j hlt)
        have HF : Hid _ := hfin
        have hne : (((f j : Nat) : Int) != ((g j : Nat) : Int)) = true := by simp; omega
        generalize f j = q1 at hca hne
        generalize g j = q2 at hcb hne
        clear hfg hfin
        go_wp2
        go_quiet (fail)
        go_wp2
        go_ret
        exact ⟨congrArg (fun b => Ending.returned (.bool b)) HF.out.symm, stepB HB.out (below_drewNI hB _)⟩
    · have hje : j = 25 := by omega
      subst hje
      have HF : Hid (decide (stL f = stL g) = true) := decide_eq_true (stL_congr HE.out)
      go_wp2
      go_ret
      exact ⟨congrArg (fun b => Ending.returned (.bool b)) HF.out.symm, stepB HB.out hB⟩
end Go.Proofs.YthajkimmnceoiaaDoor
