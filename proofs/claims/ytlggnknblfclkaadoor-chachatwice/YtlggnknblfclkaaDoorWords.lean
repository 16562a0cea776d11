/- What the functions of package words answer, for whatever reads as bytes: contracts, whatever the memory. -/
import Derived.Test.YtlggnknblfclkaaDoorRows
import Derived.Test.YtlggnknblfclkaaDoorLib
import Derived.Deep.QuietTactic
import Derived.BigQuiet
import Derived.WalkSpells
import Derived.RegionTactic
import Derived.BigRegion
namespace Go.Proofs.YtlggnknblfclkaaDoor
set_option linter.unusedSimpArgs false
set_option linter.unusedVariables false
open Go.ChangeShapes Go.WideShapes Go.ChangeAt Go.RowKit

theorem ret_int {k : IntKind} {a b : Int} (h : a = b) : Ending.returned (.int k a) = .returned (.int k b) := by rw [h]

theorem val_int {k : IntKind} {a b : Int} (h : a = b) : Value.int k a = .int k b := by rw [h]

theorem load_any (v : Value) (l : List UInt8) (w : World) (hr : Rd w v l) :
    Calls Tryd.prog 26 #[v] w fun e w' => e = .returned (.int .u64 ((leN (l.take 8) : Nat) : Int)) ∧ w' = w := by
  obtain ⟨a, cap, rfl, h2, h3, h4, h5⟩ := hr
  unfold maxLen at h3
  go_enter Tryd.func26, Tryd.ntmps26
  go_wp2
  all_goals
    go_loop [3, 8] (fun x i => ∃ k : Nat, k ≤ l.length ∧ k ≤ 8 ∧ i = .int .i64 k ∧ x = .int .u64 ((leN (l.take k) : Nat) : Int)) (fun _ i => 8 - (intOf i).toNat)
    case atStart => exact ⟨0, Nat.zero_le _, by omega, rfl, rfl⟩
    case round =>
      obtain ⟨k, hk, hk8, rfl, rfl⟩ := hrel
      by_cases hlt : k < l.length ∧ k < 8
      · obtain ⟨g1, g2⟩ := hlt
        rcases h5 with rfl | ⟨b, off, rfl, hc⟩
        · simp at g1
        have hck := hc k g1
        have hst := load_step l k g1 g2
        have HS : Hid _ := hst
        clear hst hc h4
        go_wp2
        go_round
        case rel => exact ⟨k + 1, by omega, by omega, by go_num, val_int (by simpa [g1] using HS.out)⟩
        case measure => simp [intOf]; omega
      · go_wp2
        go_ret
        refine ⟨ret_int ?_, rfl⟩
        have : k = 8 ∨ k = l.length := by omega
        rcases this with rfl | rfl
        · rfl
        · rw [List.take_of_length_le (Nat.le_refl _), List.take_of_length_le hk8]

theorem info5 : (Tryd.prog.info? 5).map (fun i => (i.zero, i.size, i.bytes)) = some (some (.int .u8 0), 1, 1) := by kernel_rfl

theorem store_k (x : Nat) (n : Int) (k : Nat) (hk : k ≤ 8) (hn : (n < 0 ∧ k = 0) ∨ (0 ≤ n ∧ n ≤ 8 ∧ n = k) ∨ (8 < n ∧ k = 8)) (w : World) :
    Calls Tryd.prog 25 #[.int .u64 x, .int .i64 n] w fun e w' => ∃ v, e = .returned v ∧ New 5 w v ((List.range k).map (stB x)) w' := by
  obtain ⟨i, hi, hz0, hz1, hz2⟩ := info_parts info5
  have HK : Hid ((n < 0 ∧ k = 0) ∨ (0 ≤ n ∧ n ≤ 8 ∧ n = k) ∨ (8 < n ∧ k = 8)) := hn
  have hn' : n < 0 ∨ (0 ≤ n ∧ n ≤ 8) ∨ 8 < n := by omega
  clear hn
  rcases hn' with h1 | ⟨h1, h2⟩ | h1
  all_goals
    go_enter Tryd.func25, Tryd.ntmps25
    go_wp2_with (at_make; refine wpList_make_full _ rfl _ _ 30 rfl w.heap.size 5 i _ 1 Tryd.underlying30 hi hz0 hz1 _ _ _ _ k rfl rfl (by have := HK.out; omega) (by have := HK.out; omega) (by rw [hz2]; omega) (by unfold maxLen; omega) (Nat.le_refl _) ?_)
    intro w1 hown hgr
    have hF := Fill.start (stB x) hown hgr
    clear hown hgr
    go_wp2
    go_loopw [13] (fun i wr => ∃ j : Nat, j ≤ k ∧ i = .int .i64 j ∧ Fill 5 w w.heap.size k (stB x) j wr) (fun i _ => k - (intOf i).toNat)
    case atStart => exact ⟨0, Nat.zero_le _, rfl, hF⟩
    case round =>
      obtain ⟨j, hj, rfl, hFj⟩ := hrel
      by_cases hlt : j < k
      · obtain ⟨hcj, hfj⟩ := hFj.cell hlt
        go_wp2
        go_roundw
        case rel => exact ⟨j + 1, by omega, by go_num, hFj.step (stB_shr x j)⟩
        case measure => simp [intOf]; omega
      · have : j = k := by omega
        subst this
        go_wp2
        go_ret
        exact ⟨_, rfl, hFj.done⟩

theorem xor_any (va vb : Value) (la lb : List UInt8) (w : World) (ha : Rd w va la) (hb : Rd w vb lb) (hmx : la.length ≤ 140737488355328) :
    Calls Tryd.prog 22 #[va, vb] w fun e w' => ∃ v, e = .returned v ∧ New 5 w v (xorL la lb) w' := by
  obtain ⟨i, hi, hz0, hz1, hz2⟩ := info_parts info5
  obtain ⟨aa, capa, ea, ha2, ha3, ha4, ha5⟩ := id ha
  obtain ⟨ab, capb, eb, hb2, hb3, hb4, hb5⟩ := id hb
  have Ha : Hid (Rd w va la) := ha
  have Hb : Hid (Rd w vb lb) := hb
  clear ha hb ha5 hb5
  subst ea eb
  unfold maxLen at ha3 hb3
  obtain ⟨n, hn⟩ : ∃ n : Nat, n = min la.length lb.length := ⟨_, rfl⟩
  have HN : Hid (n = min la.length lb.length) := hn
  have hcase : (la.length : Int) ≤ lb.length ∨ (lb.length : Int) < la.length := by omega
  clear hn
  go_enter Tryd.func22, Tryd.ntmps22
  go_wp2_with (at_make; go_must (refine wpList_make_full _ rfl _ _ 30 rfl w.heap.size 5 i _ 1 Tryd.underlying30 hi hz0 hz1 _ _ _ _ n rfl rfl (by have := HN.out; omega) (by have := HN.out; omega) (by rw [hz2]; have := HN.out; omega) (by unfold maxLen; have := HN.out; omega) (Nat.le_refl _) ?_))
  all_goals
    intro w1 hown hgr
    have hF := Fill.start (fun i => la.getD i 0 ^^^ lb.getD i 0) hown hgr
    clear hown hgr hcase
    go_wp2
    go_loopw [15] (fun i wr => ∃ j : Nat, j ≤ n ∧ i = .int .i64 j ∧ Fill 5 w w.heap.size n (fun i => la.getD i 0 ^^^ lb.getD i 0) j wr) (fun i _ => n - (intOf i).toNat)
    case atStart => exact ⟨0, Nat.zero_le _, rfl, hF⟩
    case round =>
      obtain ⟨j, hj, rfl, hFj⟩ := hrel
      by_cases hlt : j < n
      · obtain ⟨hcj, hfj⟩ := hFj.cell hlt
        obtain ⟨ba, oa, ca, ea, _, hca, _⟩ := (Rd.kept2 Ha hFj.2).cellAt (i := j) (by have := HN.out; omega)
        obtain ⟨bb, ob, cb, eb, _, hcb, _⟩ := (Rd.kept2 Hb hFj.2).cellAt (i := j) (by have := HN.out; omega)
        simp only [Value.slice.injEq] at ea eb
        obtain ⟨rfl, _, rfl⟩ := ea
        obtain ⟨rfl, _, rfl⟩ := eb
        have g1 : (j : Int) < la.length := by have := HN.out; omega
        have g2 : (j : Int) < lb.length := by have := HN.out; omega
        have hx := byte_xor (la.getD j 0) (lb.getD j 0)
        have HX : Hid _ := hx
        clear hx
        go_wp2
        go_region
        go_wp2
        go_roundw
        case rel => exact ⟨j + 1, by omega, by go_num, (hFj.step (by simpa using HX.out)).drew⟩
        case measure => simp [intOf]; omega
      · have : j = n := by omega
        subst this
        go_wp2
        go_ret
        refine ⟨_, rfl, ?_⟩
        have := hFj.done
        unfold xorL
        rw [← HN.out]
        exact this

theorem below_drewN {B : Nat} {w wr : World} (h : Below B w wr) : ∀ n, Below B w (wr.drewN n)
  | 0 => h
  | n + 1 => (below_drewN h n).drew

theorem sel0 (x y : UInt8) : x ^^^ (0 &&& (x ^^^ y)) = x := by simp

theorem sel1 (x y : UInt8) : x ^^^ (255 &&& (x ^^^ y)) = y := by
  have h : (255 : UInt8) &&& (x ^^^ y) = x ^^^ y := by
    rw [show (255 : UInt8) = -1 from rfl]; simp
  rw [h, ← UInt8.xor_assoc]; simp

theorem conv_any {w : World} {v : Value} {l : List UInt8} (h : Rd w v l) : (convert 30 9 v).run Tryd.prog w = .ok (.string ⟨l.toArray⟩) w :=
  h.conv Tryd.underlying30 Tryd.underlying5 Tryd.underlying9

end Go.Proofs.YtlggnknblfclkaaDoor
