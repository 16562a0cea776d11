/- What the functions of package words answer, for whatever reads as bytes: contracts, whatever the memory. -/
import Derived.Test.YtliiofjcghdjoaaDoorRows
import Derived.Test.YtliiofjcghdjoaaDoorBase
import Derived.Deep.QuietTactic
import Derived.BigQuiet
import Derived.WalkSpells
import Derived.RegionTactic
import Derived.BigRegion
namespace Go.Proofs.YtliiofjcghdjoaaDoor
set_option linter.unusedSimpArgs false
set_option linter.unusedVariables false
open Go.ChangeShapes Go.WideShapes Go.ChangeAt Go.RowKit

theorem ret_int {k : IntKind} {a b : Int} (h : a = b) : Ending.returned (.int k a) = .returned (.int k b) := by rw [h]

theorem val_int {k : IntKind} {a b : Int} (h : a = b) : Value.int k a = .int k b := by rw [h]

theorem load_any (v : Value) (l : List UInt8) (w : World) (hr : Rd w v l) :
    Calls Tryd.prog 87 #[v] w fun e w' => e = .returned (.int .u64 ((leN (l.take 8) : Nat) : Int)) ∧ w' = w := by
  obtain ⟨a, cap, rfl, h2, h3, h4, h5⟩ := hr
  unfold maxLen at h3
  go_enter Tryd.func87, Tryd.ntmps87
  go_wp2
  all_goals
    go_loop [3, 8] (fun x i => ∃ k : Nat, k ≤ l.length ∧ k ≤ 8 ∧ i = .int .i64 k ∧ x = .int .u64 ((leN (l.take k) : Nat) : Int)) (fun _ i => 8 - (intOf i).toNat)
    case atStart => exact ⟨0, Nat.zero_le _, by omega, rfl, rfl⟩
    case round =>
      obtain ⟨k, hk, hk8, rfl, rfl⟩ := hrel
      by_cases hlt : k < l.length ∧ k < 8
      · obtain ⟨g1, g2⟩ := hlt
        rcases h5 with rfl | ⟨b, off, rfl, hc⟩
        · simp at g1
        have hck := hc k g1
        have hst := load_step l k g1 g2
        have HS : Hid _ := hst
        clear hst hc h4
        go_wp2
        go_round
        case rel => exact ⟨k + 1, by omega, by omega, by go_num, val_int (by simpa [g1] using HS.out)⟩
        case measure => simp [intOf]; omega
      · go_wp2
        go_ret
        refine ⟨ret_int ?_, rfl⟩
        have : k = 8 ∨ k = l.length := by omega
        rcases this with rfl | rfl
        · rfl
        · rw [List.take_of_length_le (Nat.le_refl _), List.take_of_length_le hk8]

theorem info5 : (Tryd.prog.info? 5).map (fun i => (i.zero, i.size, i.bytes)) = some (some (.int .u8 0), 1, 1) := by kernel_rfl

theorem store_k (x : Nat) (n : Int) (k : Nat) (hk : k ≤ 8) (hn : (n < 0 ∧ k = 0) ∨ (0 ≤ n ∧ n ≤ 8 ∧ n = k) ∨ (8 < n ∧ k = 8)) (w : World) :
    Calls Tryd.prog 63 #[.int .u64 x, .int .i64 n] w fun e w' => ∃ v, e = .returned v ∧ New 5 w v ((List.range k).map (stB x)) w' := by
  obtain ⟨i, hi, hz0, hz1, hz2⟩ := info_parts info5
  have HK : Hid ((n < 0 ∧ k = 0) ∨ (0 ≤ n ∧ n ≤ 8 ∧ n = k) ∨ (8 < n ∧ k = 8)) := hn
  have hn' : n < 0 ∨ (0 ≤ n ∧ n ≤ 8) ∨ 8 < n := by omega
  clear hn
  rcases hn' with h1 | ⟨h1, h2⟩ | h1
  all_goals
    go_enter Tryd.func63, Tryd.ntmps63
    go_wp2_with (at_make; refine wpList_make_full _ rfl _ _ 40 rfl w.heap.size 5 i _ 1 Tryd.underlying40 hi hz0 hz1 _ _ _ _ k rfl rfl (by have := HK.out; omega) (by have := HK.out; omega) (by rw [hz2]; omega) (by unfold maxLen; omega) (Nat.le_refl _) ?_)
    intro w1 hown hgr
    have hF := Fill.start (stB x) hown hgr
    clear hown hgr
    go_wp2
    go_loopw [13] (fun i wr => ∃ j : Nat, j ≤ k ∧ i = .int .i64 j ∧ Fill 5 w w.heap.size k (stB x) j wr) (fun i _ => k - (intOf i).toNat)
    case atStart => exact ⟨0, Nat.zero_le _, rfl, hF⟩
    case round =>
      obtain ⟨j, hj, rfl, hFj⟩ := hrel
      by_cases hlt : j < k
      · obtain ⟨hcj, hfj⟩ := hFj.cell hlt
        go_wp2
        go_roundw
        case rel => exact ⟨j + 1, by omega, by go_num, hFj.step (stB_shr x j)⟩
        case measure => simp [intOf]; omega
      · have : j = k := by omega
        subst this
        go_wp2
        go_ret
        exact ⟨_, rfl, hFj.done⟩

set_option maxRecDepth 100000 in
theorem xor_any (va vb : Value) (la lb : List UInt8) (w : World) (ha : Rd w va la) (hb : Rd w vb lb) (hmx : la.length ≤ 140737488355328) :
    Calls Tryd.prog 66 #[va, vb] w fun e w' => ∃ v, e = .returned v ∧ New 5 w v (xorL la lb) w' := by
  obtain ⟨i, hi, hz0, hz1, hz2⟩ := info_parts info5
  obtain ⟨aa, capa, ea, ha2, ha3, ha4, ha5⟩ := id ha
  obtain ⟨ab, capb, eb, hb2, hb3, hb4, hb5⟩ := id hb
  have Ha : Hid (Rd w va la) := ha
  have Hb : Hid (Rd w vb lb) := hb
  clear ha hb ha5 hb5
  subst ea eb
  unfold maxLen at ha3 hb3
  obtain ⟨n, hn⟩ : ∃ n : Nat, n = min la.length lb.length := ⟨_, rfl⟩
  have HN : Hid (n = min la.length lb.length) := hn
  have hcase : (la.length : Int) ≤ lb.length ∨ (lb.length : Int) < la.length := by omega
  clear hn
  go_enter Tryd.func66, Tryd.ntmps66
  go_wp2_with (at_make; go_must (refine wpList_make_full _ rfl _ _ 40 rfl w.heap.size 5 i _ 1 Tryd.underlying40 hi hz0 hz1 _ _ _ _ n rfl rfl (by have := HN.out; omega) (by have := HN.out; omega) (by rw [hz2]; have := HN.out; omega) (by unfold maxLen; have := HN.out; omega) (Nat.le_refl _) ?_))
  all_goals
    intro w1 hown hgr
    have hF := Fill.start (fun i => la.getD i 0 ^^^ lb.getD i 0) hown hgr
    clear hown hgr hcase
    go_wp2
    go_loopw [15] (fun i wr => ∃ j : Nat, j ≤ n ∧ i = .int .i64 j ∧ Fill 5 w w.heap.size n (fun i => la.getD i 0 ^^^ lb.getD i 0) j wr) (fun i _ => n - (intOf i).toNat)
    case atStart => exact ⟨0, Nat.zero_le _, rfl, hF⟩
    case round =>
      obtain ⟨j, hj, rfl, hFj⟩ := hrel
      by_cases hlt : j < n
      · obtain ⟨hcj, hfj⟩ := hFj.cell hlt
        obtain ⟨ba, oa, ca, ea, _, hca, _⟩ := (Rd.kept2 Ha hFj.2).cellAt (i := j) (by have := HN.out; omega)
        obtain ⟨bb, ob, cb, eb, _, hcb, _⟩ := (Rd.kept2 Hb hFj.2).cellAt (i := j) (by have := HN.out; omega)
        simp only [Value.slice.injEq] at ea eb
        obtain ⟨rfl, _, rfl⟩ := ea
        obtain ⟨rfl, _, rfl⟩ := eb
        have g1 : (j : Int) < la.length := by have := HN.out; omega
        have g2 : (j : Int) < lb.length := by have := HN.out; omega
        have hx := byte_xor (la.getD j 0) (lb.getD j 0)
        have HX : Hid _ := hx
        clear hx
        go_wp2
        go_region
        go_wp2
        go_roundw
        case rel => exact ⟨j + 1, by omega, by go_num, (hFj.step (by simpa using HX.out)).drew⟩
        case measure => simp [intOf]; omega
      · have : j = n := by omega
        subst this
        go_wp2
        go_ret
        refine ⟨_, rfl, ?_⟩
        have := hFj.done
        unfold xorL
        rw [← HN.out]
        exact this

theorem below_drewN {B : Nat} {w wr : World} (h : Below B w wr) : ∀ n, Below B w (wr.drewN n)
  | 0 => h
  | n + 1 => (below_drewN h n).drew

theorem equal_short (va vb : Value) (la lb : List UInt8) (w : World) (ha : Rd w va la) (hb : Rd w vb lb) (hne : la.length ≠ lb.length) :
    Calls Tryd.prog 62 #[va, vb] w fun e w' => e = .returned (.bool (decide (la = lb))) ∧ Below w.heap.size w w' := by
  obtain ⟨aa, capa, rfl, ha2, ha3, ha4, ha5⟩ := ha
  obtain ⟨ab, capb, rfl, hb2, hb3, hb4, hb5⟩ := hb
  have h1 : ((la.length : Int) != (lb.length : Int)) = true := by simp; omega
  have h2 : decide (la = lb) = false := by
    simp only [decide_eq_false_iff_not]
    rintro rfl; exact hne rfl
  rw [h2]
  clear h2 ha5 hb5
  go_enter Tryd.func62, Tryd.ntmps62
  go_wp2
  go_ret
  exact ⟨rfl, Below.refl _ _⟩

theorem equal_long (va vb : Value) (la lb : List UInt8) (w : World) (ha : Rd w va la) (hb : Rd w vb lb) (heq : la.length = lb.length) :
    Calls Tryd.prog 62 #[va, vb] w fun e w' => e = .returned (.bool (decide (la = lb))) ∧ Below w.heap.size w w' := by
  obtain ⟨aa, capa, ea, ha2, ha3, ha4, ha5⟩ := id ha
  obtain ⟨ab, capb, eb, hb2, hb3, hb4, hb5⟩ := id hb
  have Ha : Hid (Rd w va la) := ha
  have Hb : Hid (Rd w vb lb) := hb
  clear ha hb ha5 hb5
  subst ea eb
  unfold maxLen at ha3 hb3
  have h1 : ((la.length : Int) != (lb.length : Int)) = false := by simp; omega
  have HE : Hid (la.length = lb.length) := heq
  clear heq
  go_enter Tryd.func62, Tryd.ntmps62
  go_wp2
  clear h1
  go_loopw [5, 14] (fun x i wr => ∃ (k : Nat) (s : UInt8), k ≤ la.length ∧ i = .int .i64 k ∧ x = .int .u8 (s.toNat : Int) ∧ Hid (s = orL ((xorL la lb).take k)) ∧ Below w.heap.size w wr) (fun _ i _ => la.length - (intOf i).toNat)
  case atStart => exact ⟨0, 0, Nat.zero_le _, rfl, rfl, rfl, Below.refl _ _⟩
  case round =>
    obtain ⟨k, s, hk, rfl, rfl, HS, hB⟩ := hrel
    by_cases hlt : k < la.length
    · obtain ⟨ba, oa, ca, ea, _, hca, _⟩ := (Rd.kept2 Ha hB).cellAt (i := k) hlt
      obtain ⟨bb, ob, cb, eb, _, hcb, _⟩ := (Rd.kept2 Hb hB).cellAt (i := k) (by have := HE.out; omega)
      simp only [Value.slice.injEq] at ea eb
      obtain ⟨rfl, _, rfl⟩ := ea
      obtain ⟨rfl, _, rfl⟩ := eb
      have hX := xorL_take_succ la lb k hlt (by have := HE.out; omega)
      have g1 : (k : Int) < la.length := by omega
      have g2 : (k : Int) < lb.length := by have := HE.out; omega
      generalize la.getD k 0 = x at hX hca
      generalize lb.getD k 0 = y at hX hcb
      have HX : Hid _ := hX
      have HO : Hid _ := byte_xor x y
      have HP : Hid _ := byte_or s (x ^^^ y)
      clear hX
      go_wp2
      go_quiet (fail)
      go_wp2
      go_roundw
      case rel => exact ⟨k + 1, s ||| (x ^^^ y), by omega, by go_num, val_int (by rw [HO.out]; exact HP.out), by rw [HS.out, HX.out, orL_snoc]; rfl, below_drewN hB _⟩
      case measure => simp [intOf]; omega
    · have HZ : Hid ((((s.toNat : Nat) : Int) == 0) = decide (s = 0)) := nat0_beq s
      have HF : Hid (s = orL (xorL la lb)) := by
        have : (xorL la lb).take k = xorL la lb := List.take_of_length_le (by rw [xorL_length]; have := HE.out; omega)
        rw [this] at HS; exact HS
      go_wp2
      go_ret
      refine ⟨congrArg (fun b => Ending.returned (.bool b)) (HZ.out.trans ?_), hB⟩
      rw [HF.out]
      exact decide_eq_decide.2 (orL_xorL la lb HE.out)

theorem equal_any (va vb : Value) (la lb : List UInt8) (w : World) (ha : Rd w va la) (hb : Rd w vb lb) :
    Calls Tryd.prog 62 #[va, vb] w fun e w' => e = .returned (.bool (decide (la = lb))) ∧ Below w.heap.size w w' := by
  by_cases h : la.length = lb.length
  · exact equal_long va vb la lb w ha hb h
  · exact equal_short va vb la lb w ha hb h

theorem join_any (v : Value) (vs : List Value) (ls : List (List UInt8)) (w : World) (h : RdL w v vs ls) (ht : totL ls ≤ 1000000000) :
    Calls Tryd.prog 47 #[v] w fun e w' => ∃ r, e = .returned r ∧ New 5 w r ls.flatten w' := by
  obtain ⟨i, hi, hz0, hz1, hz2⟩ := info_parts info5
  have H : Hid (RdL w v vs ls) := h
  obtain ⟨⟨a, cap, ev, h2, h3, h5⟩, h6, h7⟩ := id h
  clear h h5 h7
  subst ev
  unfold maxLen at h3
  have HL : Hid (vs.length = ls.length) := h6
  clear h6
  go_enter Tryd.func47, Tryd.ntmps47
  go_wp2
  go_loop [3, 9] (fun x i => ∃ (k t : Nat), k ≤ vs.length ∧ t ≤ 1000000000 ∧ i = .int .i64 k ∧ x = .int .i64 (t : Int) ∧ Hid (t = totL (ls.take k))) (fun _ i => vs.length - (intOf i).toNat)
  case atStart => exact ⟨0, 0, Nat.zero_le _, by omega, rfl, rfl, rfl⟩
  case round =>
    obtain ⟨k, t, hk, htb, rfl, rfl, HT⟩ := hrel
    by_cases hlt : k < vs.length
    · obtain ⟨b, off, cap', a', cap2, ev, _, hc, hr⟩ := H.out.cellAt (i := k) hlt
      simp only [Value.slice.injEq] at ev
      obtain ⟨rfl, _, rfl⟩ := ev
      have HS : Hid _ := totL_take_succ ls k (by have := HL.out; omega)
      have hle := totL_take_le ls (k + 1)
      rw [HS.out] at hle
      have hsum : t + (ls.getD k []).length ≤ 1000000000 := by rw [HT.out]; omega
      generalize ls.getD k [] = lk at hc hr HS hsum
      clear hle hr
      go_wp2
      go_round
      case rel => exact ⟨k + 1, t + lk.length, by omega, by omega, by go_num, by go_num, by rw [HT.out]; exact HS.out.symm⟩
      case measure => simp [intOf]; omega
    · have HF : Hid (t = totL ls) := by
        have : ls.take k = ls := List.take_of_length_le (by have := HL.out; omega)
        rw [this] at HT; exact HT
      go_wp2_with (at_make; go_must (refine wpList_make_own _ rfl _ _ 40 rfl w.heap.size 5 i _ 1 Tryd.underlying40 hi hz0 hz1 _ _ _ t rfl rfl rfl (by rw [hz2]; omega) (by unfold maxLen; omega) (Nat.le_refl _) ?_))
      intro w1 hown hgr
      have hN1 : New 5 w _ [] w1 := ⟨hown, (Below.refl _ _).grown hgr (Nat.le_refl _) (by simp)⟩
      clear hown hgr
      go_wp2
      go_loopw [5, 24] (fun r i wr => ∃ (m : Nat), m ≤ vs.length ∧ i = .int .i64 m ∧ New 5 w r (ls.take m).flatten wr) (fun _ i _ => vs.length - (intOf i).toNat)
      case atStart => exact ⟨0, Nat.zero_le _, rfl, hN1⟩
      case round =>
        obtain ⟨m, hm, rfl, hN⟩ := hrel
        by_cases hlm : m < vs.length
        · obtain ⟨b, off, cap', a', cap2, ev, _, hc, hr⟩ := (H.out.kept hN.2).cellAt (i := m) hlm
          simp only [Value.slice.injEq] at ev
          obtain ⟨rfl, _, rfl⟩ := ev
          have HS : Hid _ := flat_take_succ ls m (by have := HL.out; omega)
          have hle := totL_take_le ls (m + 1)
          rw [totL_take_succ ls m (by have := HL.out; omega)] at hle
          have hsum : (ls.take m).flatten.length + (ls.getD m []).length ≤ 1000000000 := by unfold totL at hle ht; omega
          generalize ls.getD m [] = lk at hc hr HS hsum
          clear hle
          have HSum : Hid ((ls.take m).flatten.length + lk.length ≤ 1000000000) := hsum
          clear hsum
          go_wp2_with (at_builtin; go_must (refine wpList_append_new (w := w) rfl _ _ 40 rfl 5 Tryd.underlying40 info5 u5 _ rfl hN _ lk rfl hr (by have := HSum.out; omega) ?_))
          intro v2 w2 hN2 _
          go_wp2
          go_roundw
          case rel => exact ⟨m + 1, by omega, by go_num, by rw [HS.out]; exact hN2⟩
          case measure => simp [intOf]; omega
        · have : ls.take m = ls := List.take_of_length_le (by have := HL.out; omega)
          rw [this] at hN
          clear this
          go_wp2
          go_ret
          exact ⟨_, rfl, hN⟩

theorem sel0 (x y : UInt8) : x ^^^ (0 &&& (x ^^^ y)) = x := by simp

theorem sel1 (x y : UInt8) : x ^^^ (255 &&& (x ^^^ y)) = y := by
  have h : (255 : UInt8) &&& (x ^^^ y) = x ^^^ y := by
    rw [show (255 : UInt8) = -1 from rfl]; simp
  rw [h, ← UInt8.xor_assoc]; simp

theorem conv_any {w : World} {v : Value} {l : List UInt8} (h : Rd w v l) : (convert 40 9 v).run Tryd.prog w = .ok (.string ⟨l.toArray⟩) w :=
  h.conv Tryd.underlying40 Tryd.underlying5 Tryd.underlying9

theorem equal_bool (va vb : Value) (la lb : List UInt8) (b : Bool) (hab : decide (la = lb) = b) (w : World) (ha : Rd w va la) (hb : Rd w vb lb) :
    Calls Tryd.prog 62 #[va, vb] w fun e w' => e = .returned (.bool b) ∧ Below w.heap.size w w' := by
  subst hab; exact equal_any va vb la lb w ha hb

end Go.Proofs.YtliiofjcghdjoaaDoor
