/- What Xor answers, for whatever reads as bytes: new memory that holds the bytes laid over one another. -/
import Derived.Test.YticjhpclpealmaaA
import Derived.RegionTactic
import Derived.BigRegion
namespace Go.Proofs.Yticjhpclpealmaa
open Go.ChangeShapes Go.WideShapes Go.ChangeAt Go.RowKit

set_option maxHeartbeats 1000000 in
theorem xor_any (va vb : Value) (la lb : List UInt8) (w : World) (ha : Rd w va la) (hb : Rd w vb lb) (hmx : la.length ≤ 140737488355328) :
    Calls Try.prog 14 #[va, vb] w fun e w' => ∃ v, e = .returned v ∧ New 5 w v (xorL la lb) w' := by
  obtain ⟨i, hi, hz0, hz1, hz2⟩ := info_parts info5
  obtain ⟨aa, capa, ea, ha2, ha3, ha4, ha5⟩ := id ha
  obtain ⟨ab, capb, eb, hb2, hb3, hb4, hb5⟩ := id hb
  have Ha : Hid (Rd w va la) := ha
  have Hb : Hid (Rd w vb lb) := hb
  clear ha hb ha5 hb5
  subst ea eb
  unfold maxLen at ha3 hb3
  obtain ⟨n, hn⟩ : ∃ n : Nat, n = min la.length lb.length := ⟨_, rfl⟩
  have HN : Hid (n = min la.length lb.length) := hn
  have hcase : (la.length : Int) ≤ lb.length ∨ (lb.length : Int) < la.length := by omega
  clear hn
  go_enter Try.func14, Try.ntmps14
  go_wp2_with (at_make; go_must (refine wpList_make_full _ rfl _ _ 22 rfl w.heap.size 5 i _ 1 Try.underlying22 hi hz0 hz1 _ _ _ _ n rfl rfl (by have := HN.out; omega) (by have := HN.out; omega) (by rw [hz2]; have := HN.out; omega) (by unfold maxLen; have := HN.out; omega) (Nat.le_refl _) ?_))
  all_goals
    intro w1 hown hgr
    have hF := Fill.start (fun i => la.getD i 0 ^^^ lb.getD i 0) hown hgr
    clear hown hgr hcase
    go_wp2
    go_loopw [15] (fun i wr => ∃ j : Nat, j ≤ n ∧ i = .int .i64 j ∧ Fill 5 w w.heap.size n (fun i => la.getD i 0 ^^^ lb.getD i 0) j wr) (fun i _ => n - (intOf i).toNat)
    case atStart => exact ⟨0, Nat.zero_le _, rfl, hF⟩
    case round =>
      obtain ⟨j, hj, rfl, hFj⟩ := hrel
      by_cases hlt : j < n
      · obtain ⟨hcj, hfj⟩ := hFj.cell hlt
        obtain ⟨ba, oa, ca, ea, _, hca, _⟩ := (Rd.kept2 Ha hFj.2).cellAt (i := j) (by have := HN.out; omega)
        obtain ⟨bb, ob, cb, eb, _, hcb, _⟩ := (Rd.kept2 Hb hFj.2).cellAt (i := j) (by have := HN.out; omega)
        simp only [Value.slice.injEq] at ea eb
        obtain ⟨rfl, _, rfl⟩ := ea
        obtain ⟨rfl, _, rfl⟩ := eb
        have g1 : (j : Int) < la.length := by have := HN.out; omega
        have g2 : (j : Int) < lb.length := by have := HN.out; omega
        have hx := byte_xor (la.getD j 0) (lb.getD j 0)
        have HX : Hid _ := hx
        clear hx
        go_wp2
        go_region
        go_wp2
        go_roundw
        case rel => exact ⟨j + 1, by omega, by go_num, (hFj.step (by simpa using HX.out)).drew⟩
        case measure => simp [intOf]; omega
      · have : j = n := by omega
        subst this
        go_wp2
        go_ret
        refine ⟨_, rfl, ?_⟩
        have := hFj.done
        unfold xorL
        rw [← HN.out]
        exact this
end Go.Proofs.Yticjhpclpealmaa
