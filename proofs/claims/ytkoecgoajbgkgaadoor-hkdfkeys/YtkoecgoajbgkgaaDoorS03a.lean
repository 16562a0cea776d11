/- What the small functions of package sponge answer: a state's byte, its first bytes, the last block, one block taken in. -/
import Derived.Test.YtkoecgoajbgkgaaDoorK02f
import Derived.Test.YtkoecgoajbgkgaaDoorWords
import Derived.Test.YtkoecgoajbgkgaaDoorBase
namespace Go.Proofs.YtkoecgoajbgkgaaDoor
open Go.ChangeShapes Go.WideShapes Go.ChangeAt Go.RowKit
set_option linter.unusedSimpArgs false
set_option linter.unusedVariables false

theorem byF_shr (f : Nat → Nat) (n : Nat) : ((f (n / 8) : Nat) : Int) / 2 ^ (8 * (n % 8)) % 256 = ((byF f n).toNat : Int) := stB_shr (f (n / 8)) (n % 8)

set_option maxHeartbeats 400000 in
theorem byteAt_any (A : Array Value) (f : Nat → Nat) (hf : ∀ i, f i < 18446744073709551616) (hA : A = ((stL f).map (Value.int .u64)).toArray) (n : Nat) (hn : n < 200) (w : World) :
    Calls Tryd.prog 24 #[.agg A, .int .i64 (n : Int)] w fun e w' => e = .returned (.int .u8 ((byF f n).toNat : Int)) ∧ Below w.heap.size w w' := by
  have HA : Hid _ := hA
  have hq := hf (n / 8)
  clear hA hf
  obtain ⟨d, hd⟩ : ∃ d : Nat, d = n / 8 := ⟨_, rfl⟩
  obtain ⟨m, hm⟩ : ∃ m : Nat, m = n % 8 := ⟨_, rfl⟩
  have td : (n : Int).tdiv 8 = (d : Int) := by rw [hd, Int.tdiv_eq_ediv_of_nonneg (by omega)]; omega
  have tm : (n : Int).tmod 8 = (m : Int) := by rw [hm, Int.tmod_eq_emod_of_nonneg (by omega)]; omega
  have bd : (d : Int) < 25 := by omega
  have bm : (m : Int) < 8 := by omega
  have w8 : IntKind.i64.wrap (8 * (m : Int)) = 8 * (m : Int) := IntWalk.i64_in _ (by omega)
  have n8 : (8 * (m : Int)).toNat = 8 * m := by omega
  have HE : Hid _ := byF_shr f n
  rw [← hm] at HE
  rw [← hd] at HE hq
  have r0 : RowAt .u64 40 w.heap.size 25 (stL f) (w.alloc (.cells A 40)) := RowAt.fresh (stL f) HA.out rfl (stL_length f).symm (stL_ne f) max25
  have hc := r0.cell (j := d) (by rw [stL_length]; omega)
  rw [stL_get _ _ (by omega)] at hc
  have hb : Below w.heap.size w (w.alloc (.cells A 40)) := growB _
  generalize f d = q at hc HE hq
  clear r0 HA hd hm
  go_enter Tryd.func24, Tryd.ntmps24
  go_wp2
  go_ret
  exact ⟨retI (by first | exact HE.out | simpa using HE.out), hb⟩

theorem New.of_fill {e : TypeId} {w wb : World} {B n : Nat} {f : Nat → UInt8} {wr : World} (h : Fill e wb B n f n wr) (hb : Below w.heap.size w wb) : New e w (.slice (some ⟨B, 0, none⟩) n n) ((List.range n).map f) wr := h.done.from hb
theorem Fill.kept {e : TypeId} {w : World} {B n : Nat} {f : Nat → UInt8} {k : Nat} {wr w2 : World} (h : Fill e w B n f k wr) (hb : Below wr.heap.size wr w2) : Fill e w B n f k w2 := ⟨ownsRow_below h.1 hb, h.2.trans (hb.mono h.2.size)⟩

set_option maxHeartbeats 400000 in
theorem first_any (A : Array Value) (f : Nat → Nat) (hf : ∀ i, f i < 18446744073709551616) (hA : A = ((stL f).map (Value.int .u64)).toArray) (n : Nat) (hn : n ≤ 200) (w : World) :
    Calls Tryd.prog 20 #[.agg A, .int .i64 (n : Int)] w fun e w' => ∃ v, e = .returned v ∧ New 5 w v (bsP f n) w' := by
  obtain ⟨i, hi, hz0, hz1, hz2⟩ := info_parts info5
  have HA : Hid _ := hA
  have HF : Hid (∀ i, f i < 18446744073709551616) := hf
  clear hA hf
  have r0 : RowAt .u64 40 w.heap.size 25 (stL f) (w.alloc (.cells A 40)) := RowAt.fresh (stL f) HA.out rfl (stL_length f).symm (stL_ne f) max25
  have hb : Below w.heap.size w (w.alloc (.cells A 40)) := growB _
  go_enter Tryd.func20, Tryd.ntmps20
  go_wp2_with (at_make; go_must (refine wpList_make_full _ rfl _ _ 22 rfl (w.heap.size + 1) 5 i _ 1 Tryd.underlying22 hi hz0 hz1 _ _ _ _ n rfl rfl (by omega) (by omega) (by rw [hz2]; omega) (by unfold maxLen; omega) (by simp) ?_))
  intro w1 hown hgr
  have hF : Fill 5 (w.alloc (.cells A 40)) (w.heap.size + 1) n (byF f) 0 w1 := by
    have h1 : (w.alloc (.cells A 40)).heap.size = w.heap.size + 1 := by simp
    have := Fill.start (w := w.alloc (.cells A 40)) (byF f) (by rw [h1]; exact hown) hgr
    rwa [h1] at this
  clear hown hgr
  generalize w.alloc (.cells A 40) = wb at hF r0 hb
  go_wp2
  go_loopw [10] (fun i wr => ∃ j : Nat, j ≤ n ∧ i = .int .i64 j ∧ Fill 5 wb (w.heap.size + 1) n (byF f) j wr) (fun i _ => n - (intOf i).toNat)
  case atStart => exact ⟨0, Nat.zero_le _, rfl, hF⟩
  case round =>
    obtain ⟨j, hj, rfl, hFj⟩ := hrel
    clear hF
    by_cases hlt : j < n
    · have hdt : decide ((j : Int) < (n : Int)) = true := decide_eq_true (by omega)
      have hjI : (j : Int) < n := by omega
      have r1 := r0.kept (hFj.2)
      go_wp2_with (refine wpList_load_row rfl 40 _ rfl rfl r1 _ Tryd.underlying40 rfl (arrInfo _) ?_)
      refine (byteAt_any _ f HF.out rfl j (by omega) _).mono ?_
      rintro e w2 ⟨rfl, hB⟩
      have hF2 := hFj.kept hB
      obtain ⟨hcj, hfj⟩ := hF2.cell hlt
      clear r1 hB hFj
      go_wp2
      go_roundw
      case rel => exact ⟨j + 1, by omega, by go_num, hF2.step rfl⟩
      case measure => simp [intOf]; omega
    · have hje : j = n := by omega
      subst hje
      go_wp2
      go_ret
      exact ⟨_, rfl, New.of_fill hFj hb⟩
end Go.Proofs.YtkoecgoajbgkgaaDoor
