/- What a thing that gives bytes without end gives when so many are asked for. -/
import Derived.Test.YtlcnepnappfjeaaDoorS03f
namespace Go.Proofs.YtlcnepnappfjeaaDoor
open Go.ChangeShapes Go.WideShapes Go.ChangeAt Go.RowKit
set_option linter.unusedSimpArgs false
set_option linter.unusedVariables false

/-- So many bytes from one place on. -/
def pcL (f : Nat → Nat) (r p m : Nat) : List UInt8 := (List.range m).map fun k => smF f r (p + k)
theorem pcL_length (f : Nat → Nat) (r p m : Nat) : (pcL f r p m).length = m := by simp [pcL]
theorem pcL_first (f : Nat → Nat) (r m : Nat) : pcL f r 0 m = otL f r m := by
  unfold pcL otL
  exact List.map_congr_left fun k _ => by rw [Nat.zero_add]
theorem otL_pcL (f : Nat → Nat) (r a b : Nat) : otL f r a ++ pcL f r a b = otL f r (a + b) := (otL_split f r a b).symm
/-- A row that Read fills, and the thing that it reads. -/
structure RI (w : World) (g : Nat) (f : Nat → Nat) (r p m j : Nat) (wr : World) : Prop where
  own : wr.ownsRow w.heap.size 5 1 (.slice (some ⟨w.heap.size, 0, none⟩) m m) m (rowV (fun k => smF f r (p + k)) m j)
  x : XP g f r (p + j) wr
  c : Chg (fun b => b = g) w wr
  t : Tabs wr

set_option maxRecDepth 100000 in
set_option maxHeartbeats 1000000 in
theorem read_any (g : Nat) (f : Nat → Nat) (hf : ∀ i, f i < 18446744073709551616) (r p : Nat) (h1 : 1 ≤ r) (h2 : r ≤ 200) (n : Int) (m : Nat) (hm : m = n.toNat) (hn : n ≤ 1000000) (w : World) (hX : XP g f r p w) (hg : 1 < g) (ht : Tabs w) :
    Calls Tryd.prog 27 #[.pointer (some ⟨g, 0, none⟩), .int .i64 n] w fun e w' => ∃ v, e = .returned v ∧ w'.ownsRow w.heap.size 5 1 v (pcL f r p m).length ((pcL f r p m).map bv) ∧ XP g f r (p + m) w' ∧ Chg (fun b => b = g) w w' ∧ Tabs w' := by
  obtain ⟨i, hi, hz0, hz1, hz2⟩ := info_parts info5
  have HF : Hid (∀ i, f i < 18446744073709551616) := hf
  clear hf
  have HX : Hid (XP g f r p w) := hX
  have c25 : w.cell? ⟨g, 25, none⟩ = some (.int .i64 (r : Int)) := by
    obtain ⟨t, c, hc, hp, hB⟩ := hX
    rw [hB.cell, xofC_rate]
  have hgl := hX.lt
  clear hX
  have hr0 : ¬ (r : Int) = 0 := by omega
  have hr1 : ((r : Int) == 0) = false := by simpa using hr0
  have d1 : decide ((2147483647 : Int) < n) = false := decide_eq_false (by omega)
  have g1 : n ≤ 2147483647 := by omega
  have hmx : max n 0 = (m : Int) := by omega
  have hcase : (n < 0 ∧ m = 0) ∨ (0 ≤ n ∧ n = (m : Int)) := by omega
  have HM : Hid (m = n.toNat) := hm
  clear hm
  go_enter Tryd.func27, Tryd.ntmps27
  go_wp2_with (at_make; go_must (refine wpList_make_full _ rfl _ _ 22 rfl w.heap.size 5 i _ 1 Tryd.underlying22 hi hz0 hz1 _ _ _ _ m rfl rfl (by omega) (by omega) (by rw [hz2]; omega) (by unfold maxLen; omega) (Nat.le_refl _) ?_))
  all_goals
    intro w1 hown hgr
    have hI : RI w g f r p m 0 w1 := by
      rw [rowV_made (fun k => smF f r (p + k))] at hown
      have c0 : Chg (fun b => some b = none) w w1 := Chg.of_grown hgr
      exact ⟨hown, HX.out.chg c0 (by simp), c0.mono (fun k _ h => by simp at h), ht.chg c0 (by simp)⟩
    have hmb : m ≤ 1000000 := by omega
    clear hown hgr HX ht c25 hcase hmx d1 g1 hn HM
    go_wp2
    go_loopw [25] (fun i wr => ∃ j : Nat, j ≤ m ∧ i = .int .i64 j ∧ RI w g f r p m j wr) (fun i _ => m - (intOf i).toNat)
    case atStart => exact ⟨0, Nat.zero_le _, rfl, hI⟩
    case round =>
      obtain ⟨j, hj, rfl, hI2⟩ := hrel
      clear hI
      by_cases hlt : j < m
      · have hdt : decide ((j : Int) < (m : Int)) = true := decide_eq_true (by omega)
        have hjI : (j : Int) < m := by omega
        go_wp2_with fail
        refine (next_any g f HF.out r (p + j) h1 h2 _ hI2.x hg hI2.t).mono ?_
        rintro e w2 ⟨rfl, hX2, hC2, hT2⟩
        have hown2 := own_chg hI2.own hC2 (fun b hb => by simp only [Value.ownBlock, Option.some.injEq] at hb; omega)
        have hch2 := hI2.c.trans hC2
        clear hI2 hC2
        have hcj := hown2.cellAt j (by simpa [rowV_length] using hlt)
        rw [rowV_get _ _ _ _ hlt] at hcj
        have hfj := hown2.frozenAt j
        have hst := (hown2.stored j (bv (smF f r (p + j)))).1
        rw [rowV_set (fun k => smF f r (p + k))] at hst
        have hwr := Wrote.set w.heap.size j w2 (bv (smF f r (p + j)))
        have hI3 : RI w g f r p m (j + 1) (w2.setCell ⟨w.heap.size, j, none⟩ (bv (smF f r (p + j)))) := ⟨hst, hX2.chg (Chg.of_wrote hwr) (by omega), hch2.step (Chg.of_wrote hwr) (fun k hk h => by omega), hT2.chg (Chg.of_wrote hwr) (fun k hk h => by omega)⟩
        have HI : Hid _ := hI3
        unfold bv at hcj HI
        generalize smF f r (p + j) = x at HI
        clear hown2 hst hwr hX2 hch2 hT2 hI3
        go_wp2
        go_roundw
        case rel => exact ⟨j + 1, by omega, by go_num, HI.out⟩
        case measure => simp [intOf]; omega
      · have hje : j = m := by omega
        subst hje
        have hown2 := hI2.own
        rw [rowV_full] at hown2
        go_wp2
        go_ret
        refine ⟨_, rfl, ?_, hI2.x, hI2.c, hI2.t⟩
        rw [pcL_length]
        exact hown2

theorem read_nil (n : Int) (w : World) :
    Calls Tryd.prog 27 #[.pointer none, .int .i64 n] w fun e w' => e = .returned (.slice none 0 0) ∧ w' = w := by
  go_enter Tryd.func27, Tryd.ntmps27
  go_wp2
  go_ret
  exact ⟨rfl, rfl⟩

theorem shake128_any (vb : Value) (l : List UInt8) (w : World) (hr : Rd w vb l) (ht : Tabs w) :
    Calls Tryd.prog 26 #[vb] w fun e w' => ∃ g, e = .returned (.pointer (some ⟨g, 0, none⟩)) ∧ w.heap.size ≤ g ∧ XP g (abF 168 31 l) 168 0 w' ∧ Below w.heap.size w w' := by
  go_enter Tryd.func26, Tryd.ntmps26
  go_wp2_with fail
  refine (shake_any 168 (by omega) (by omega) _ l _ hr ht).mono ?_
  rintro e w2 ⟨g, rfl, h1, h2, h3⟩
  go_wp2
  go_ret
  exact ⟨g, rfl, h1, h2, h3⟩

theorem shake256_any (vb : Value) (l : List UInt8) (w : World) (hr : Rd w vb l) (ht : Tabs w) :
    Calls Tryd.prog 36 #[vb] w fun e w' => ∃ g, e = .returned (.pointer (some ⟨g, 0, none⟩)) ∧ w.heap.size ≤ g ∧ XP g (abF 136 31 l) 136 0 w' ∧ Below w.heap.size w w' := by
  go_enter Tryd.func36, Tryd.ntmps36
  go_wp2_with fail
  refine (shake_any 136 (by omega) (by omega) _ l _ hr ht).mono ?_
  rintro e w2 ⟨g, rfl, h1, h2, h3⟩
  go_wp2
  go_ret
  exact ⟨g, rfl, h1, h2, h3⟩
end Go.Proofs.YtlcnepnappfjeaaDoor
