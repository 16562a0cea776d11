/- What Select answers: nothing, or the row that the bit names, in new memory. -/
import Derived.Test.YticjhpclpealmaaD
namespace Go.Proofs.Yticjhpclpealmaa
open Go.ChangeShapes Go.WideShapes Go.ChangeAt Go.RowKit

set_option maxHeartbeats 1000000 in
theorem select_no (bit : Int) (va vb : Value) (la lb : List UInt8) (w : World) (ha : Rd w va la) (hb : Rd w vb lb) (hno : la.length ≠ lb.length ∨ (la.length = lb.length ∧ bit ≠ 0 ∧ bit ≠ 1)) :
    Calls Try.prog 18 #[.int .i64 bit, va, vb] w fun e w' => e = .returned (.slice none 0 0) ∧ w' = w := by
  obtain ⟨aa, capa, rfl, ha2, ha3, ha4, ha5⟩ := ha
  obtain ⟨ab, capb, rfl, hb2, hb3, hb4, hb5⟩ := hb
  clear ha5 hb5
  rcases hno with h | ⟨h, h0, h1⟩
  · have e1 : ((la.length : Int) != (lb.length : Int)) = true := by simp; omega
    clear h
    go_enter Try.func18, Try.ntmps18
    go_wp2
    go_ret
    exact ⟨rfl, rfl⟩
  · have e1 : ((la.length : Int) != (lb.length : Int)) = false := by simp; omega
    have e2 : (bit != 0) = true := by simpa using h0
    have e3 : (bit != 1) = true := by simpa using h1
    clear h h0 h1
    go_enter Try.func18, Try.ntmps18
    go_wp2
    go_ret
    exact ⟨rfl, rfl⟩

theorem sel0 (x y : UInt8) : x ^^^ (0 &&& (x ^^^ y)) = x := by simp
theorem sel1 (x y : UInt8) : x ^^^ (255 &&& (x ^^^ y)) = y := by
  have h : (255 : UInt8) &&& (x ^^^ y) = x ^^^ y := by
    rw [show (255 : UInt8) = -1 from rfl]; simp
  rw [h, ← UInt8.xor_assoc]; simp

set_option maxHeartbeats 2000000 in
theorem select_yes (bit : Int) (m : UInt8) (va vb : Value) (la lb lr : List UInt8) (w : World) (ha : Rd w va la) (hb : Rd w vb lb) (heq : la.length = lb.length) (hmx : la.length ≤ 140737488355327)
    (hbit : bit = 0 ∧ m = 0 ∧ lr = la ∨ bit = 1 ∧ m = 255 ∧ lr = lb) :
    Calls Try.prog 18 #[.int .i64 bit, va, vb] w fun e w' => ∃ v, e = .returned v ∧ New 5 w v lr w' := by
  obtain ⟨i, hi, hz0, hz1, hz2⟩ := info_parts info5
  obtain ⟨aa, capa, ea, ha2, ha3, ha4, ha5⟩ := id ha
  obtain ⟨ab, capb, eb, hb2, hb3, hb4, hb5⟩ := id hb
  have Ha : Hid (Rd w va la) := ha
  have Hb : Hid (Rd w vb lb) := hb
  clear ha hb ha5 hb5
  subst ea eb
  unfold maxLen at ha3 hb3
  have HE : Hid (la.length = lb.length) := heq
  have e1 : ((la.length : Int) != (lb.length : Int)) = false := by simp; omega
  clear heq
  have HR : Hid ((List.range la.length).map (fun i => la.getD i 0 ^^^ (m &&& (la.getD i 0 ^^^ lb.getD i 0))) = lr) := by
    rcases hbit with ⟨_, rfl, rfl⟩ | ⟨_, rfl, rfl⟩
    · refine List.ext_getElem (by simp) fun i h1 h2 => ?_
      simp [h2]
    · refine List.ext_getElem (by simp; exact HE.out) fun i h1 h2 => ?_
      simp only [List.getElem_map, List.getElem_range, sel1]
      simp [h2]
  have hb' : (bit = 0 ∧ m = 0) ∨ (bit = 1 ∧ m = 255) := by
    rcases hbit with ⟨h1, h2, _⟩ | ⟨h1, h2, _⟩
    · exact .inl ⟨h1, h2⟩
    · exact .inr ⟨h1, h2⟩
  clear hbit
  rcases hb' with ⟨rfl, rfl⟩ | ⟨rfl, rfl⟩
  · go_enter Try.func18, Try.ntmps18
    go_wp2_with (at_make; go_must (refine wpList_make_full _ rfl _ _ 22 rfl w.heap.size 5 i _ 1 Try.underlying22 hi hz0 hz1 _ _ _ _ la.length rfl rfl rfl rfl (by rw [hz2]; omega) (by unfold maxLen; omega) (Nat.le_refl _) ?_))
    intro w1 hown hgr
    have hF := Fill.start (fun i => la.getD i 0 ^^^ (0 &&& (la.getD i 0 ^^^ lb.getD i 0))) hown hgr
    clear hown hgr e1
    go_wp2
    go_loopw [31] (fun i wr => ∃ j : Nat, j ≤ la.length ∧ i = .int .i64 j ∧ Fill 5 w w.heap.size la.length (fun i => la.getD i 0 ^^^ (0 &&& (la.getD i 0 ^^^ lb.getD i 0))) j wr) (fun i _ => la.length - (intOf i).toNat)
    case atStart => exact ⟨0, Nat.zero_le _, rfl, hF⟩
    case round =>
      obtain ⟨j, hj, rfl, hFj⟩ := hrel
      by_cases hlt : j < la.length
      · obtain ⟨hcj, hfj⟩ := hFj.cell hlt
        obtain ⟨ba, oa, ca, ea, _, hca, _⟩ := (Rd.kept2 Ha hFj.2).cellAt (i := j) hlt
        obtain ⟨bb, ob, cb, eb, _, hcb, _⟩ := (Rd.kept2 Hb hFj.2).cellAt (i := j) (by have := HE.out; omega)
        simp only [Value.slice.injEq] at ea eb
        obtain ⟨rfl, _, rfl⟩ := ea
        obtain ⟨rfl, _, rfl⟩ := eb
        have g1 : (j : Int) < la.length := by omega
        have g2 : (j : Int) < lb.length := by have := HE.out; omega
        have HG : Hid (∀ x y : UInt8, la.getD j 0 = x → lb.getD j 0 = y → ∀ z : Int, z = ((x ^^^ (0 &&& (x ^^^ y))).toNat : Int) → Fill 5 w w.heap.size la.length (fun i => la.getD i 0 ^^^ (0 &&& (la.getD i 0 ^^^ lb.getD i 0))) (j + 1) (wr.setCell ⟨w.heap.size, j, none⟩ (.int .u8 z))) := by
          intro x y hx hy z hz
          exact hFj.step (by rw [hz]; simp only [hx, hy])
        generalize hgx : la.getD j 0 = x at hca
        generalize hgy : lb.getD j 0 = y at hcb
        have HX : Hid (bits .xor .u8 (x.toNat : Int) (bits .and .u8 ((0 : UInt8).toNat : Int) (bits .xor .u8 (x.toNat : Int) (y.toNat : Int))) = ((x ^^^ (0 &&& (x ^^^ y))).toNat : Int)) := by
          rw [Hid, byte_xor, byte_and, byte_xor]
        have Hgx : Hid _ := hgx
        have Hgy : Hid _ := hgy
        have HFj : Hid _ := hFj
        clear hgx hgy hFj hF
        go_wp2
        go_region
        go_wp2
        go_roundw
        case rel => exact ⟨j + 1, by omega, by go_num, (HG.out x y Hgx.out Hgy.out _ (by simpa using HX.out)).drew⟩
        case measure => simp [intOf]; omega
      · have hjn : j = la.length := by omega
        subst hjn
        go_wp2
        go_ret
        refine ⟨_, rfl, ?_⟩
        have := hFj.done
        rw [HR.out] at this
        exact this
  · go_enter Try.func18, Try.ntmps18
    go_wp2_with (at_make; go_must (refine wpList_make_full _ rfl _ _ 22 rfl w.heap.size 5 i _ 1 Try.underlying22 hi hz0 hz1 _ _ _ _ la.length rfl rfl rfl rfl (by rw [hz2]; omega) (by unfold maxLen; omega) (Nat.le_refl _) ?_))
    intro w1 hown hgr
    have hF := Fill.start (fun i => la.getD i 0 ^^^ (255 &&& (la.getD i 0 ^^^ lb.getD i 0))) hown hgr
    clear hown hgr e1
    go_wp2
    go_loopw [31] (fun i wr => ∃ j : Nat, j ≤ la.length ∧ i = .int .i64 j ∧ Fill 5 w w.heap.size la.length (fun i => la.getD i 0 ^^^ (255 &&& (la.getD i 0 ^^^ lb.getD i 0))) j wr) (fun i _ => la.length - (intOf i).toNat)
    case atStart => exact ⟨0, Nat.zero_le _, rfl, hF⟩
    case round =>
      obtain ⟨j, hj, rfl, hFj⟩ := hrel
      by_cases hlt : j < la.length
      · obtain ⟨hcj, hfj⟩ := hFj.cell hlt
        obtain ⟨ba, oa, ca, ea, _, hca, _⟩ := (Rd.kept2 Ha hFj.2).cellAt (i := j) hlt
        obtain ⟨bb, ob, cb, eb, _, hcb, _⟩ := (Rd.kept2 Hb hFj.2).cellAt (i := j) (by have := HE.out; omega)
        simp only [Value.slice.injEq] at ea eb
        obtain ⟨rfl, _, rfl⟩ := ea
        obtain ⟨rfl, _, rfl⟩ := eb
        have g1 : (j : Int) < la.length := by omega
        have g2 : (j : Int) < lb.length := by have := HE.out; omega
        have HG : Hid (∀ x y : UInt8, la.getD j 0 = x → lb.getD j 0 = y → ∀ z : Int, z = ((x ^^^ (255 &&& (x ^^^ y))).toNat : Int) → Fill 5 w w.heap.size la.length (fun i => la.getD i 0 ^^^ (255 &&& (la.getD i 0 ^^^ lb.getD i 0))) (j + 1) (wr.setCell ⟨w.heap.size, j, none⟩ (.int .u8 z))) := by
          intro x y hx hy z hz
          exact hFj.step (by rw [hz]; simp only [hx, hy])
        generalize hgx : la.getD j 0 = x at hca
        generalize hgy : lb.getD j 0 = y at hcb
        have HX : Hid (bits .xor .u8 (x.toNat : Int) (bits .and .u8 ((255 : UInt8).toNat : Int) (bits .xor .u8 (x.toNat : Int) (y.toNat : Int))) = ((x ^^^ (255 &&& (x ^^^ y))).toNat : Int)) := by
          rw [Hid, byte_xor, byte_and, byte_xor]
        have Hgx : Hid _ := hgx
        have Hgy : Hid _ := hgy
        have HFj : Hid _ := hFj
        clear hgx hgy hFj hF
        go_wp2
        go_region
        go_wp2
        go_roundw
        case rel => exact ⟨j + 1, by omega, by go_num, (HG.out x y Hgx.out Hgy.out _ (by simpa using HX.out)).drew⟩
        case measure => simp [intOf]; omega
      · have hjn : j = la.length := by omega
        subst hjn
        go_wp2
        go_ret
        refine ⟨_, rfl, ?_⟩
        have := hFj.done
        rw [HR.out] at this
        exact this
end Go.Proofs.Yticjhpclpealmaa
