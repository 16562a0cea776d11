/- That the program is awake: the document's examples of which numbers may come. -/
import Derived.Test.YtmgkocoemgpgbaaWn20c
import Derived.Test.YtmgkocoemgpgbaaBlk
namespace Go.Proofs.Ytmgkocoemgpgbaa
open Go.ChangeShapes Go.WideShapes Go.ChangeAt Go.RowKit
set_option linter.unusedSimpArgs false
set_option linter.unusedVariables false

theorem alloc_wn (w : World) : (Instr.alloc 27 true (.tuple #[])).run Try.prog w = .ok (.pointer (some ⟨w.heap.size, 0, none⟩)) (w.alloc (.cells (wnC 0 0 0).toArray 27)) := by kernel_rfl
theorem WnP.zero {g : Nat} {w : World} (h : BlkAt g 27 (wnC 0 0 0) w) : WnP g [] w := ⟨0, 0, Wn.none, by decide, h⟩
/-- A window behind a world that was. -/
structure WnB (w0 : World) (g : Nat) (l : List Nat) (w : World) : Prop where
  win : WnP g l w
  new : w0.heap.size ≤ g
  below : Below w0.heap.size w0 w
theorem WnB.mk19 {w0 w w' : World} {g : Nat} {l l' : List Nat} (h : WnB w0 g l w) (h1 : WnP g l' w') (c : Chg (fun i => i = g) w w') : WnB w0 g l' w' :=
  ⟨h1, h.new, h.below.trans ⟨c.os, c.tape, c.output, c.size, fun i hi => c.block i (Nat.lt_of_lt_of_le hi h.below.size) (by have := h.new; omega)⟩⟩

theorem WnB.mark {w0 w : World} {g : Nat} {l : List Nat} (h : WnB w0 g l w) (n : Nat) (N : Int) (hN : N = (n : Int)) (hn : n < 18446744073709551616) :
    Calls Try.prog 8 #[.pointer (some ⟨g, 0, none⟩), .int .u64 N] w fun e w' => e = .returned (.int .i64 (mkL l n).2) ∧ WnB w0 g (mkL l n).1 w' ∧ Chg (fun i => i = g) w w' := by
  refine (wmark_any g l n N hN hn w h.win).mono ?_
  rintro e w' ⟨rfl, h1, h2⟩
  exact ⟨rfl, h.mk19 h1 h2, h2⟩
theorem WnB.start {w0 w w' : World} (hb : Below w0.heap.size w0 w) (h : BlkAt w.heap.size 27 (wnC 0 0 0) w') (h2 : Below w.heap.size w w') : WnB w0 w.heap.size [] w' := ⟨WnP.zero h, hb.size, stepB hb h2⟩
theorem one20 {A : Int} (h : (Lit.int .u64 A).wf = true) : ∃ a : Nat, A = (a : Int) ∧ a < 18446744073709551616 := by
  have hb := bounds_u64 h
  exact ⟨A.toNat, by omega, by omega⟩
theorem ex20_a : mkL [] 5 = ([5], 0) := by decide
theorem ex20_b : cmE [5] 5 = 43 := by decide
theorem ex20_c : cmE [5] 4 = 0 := by decide
theorem ex20_d : mkL [5] 200 = ([5, 200], 0) := by decide
theorem ex20_e : tpN [5, 200] = 200 := by decide
theorem ex20_f : cmE [5, 200] 72 = 43 := by decide
theorem ex20_g : cmE [5, 200] 73 = 0 := by decide

set_option maxRecDepth 100000 in
set_option maxHeartbeats 4000000 in
theorem awake_any (w : World) : Calls Try.prog 7 #[] w fun e w' => e = .returned (.bool true) ∧ Below w.heap.size w w' := by
  go_enter Try.func7, Try.ntmps7
  go_wp2_with (refine wpList_alloc_blk rfl 27 rfl (wnC 0 0 0) (alloc_wn _) ?_)
  intro w1 r1 b1 s1
  have hW := WnB.start (Below.refl _ w) r1 b1
  generalize w.heap.size = g at hW ⊢
  clear r1 b1 s1
  go_wp2_with fail
  refine (hW.mark 5 5 rfl (by decide)).mono ?_
  rintro e w2 ⟨rfl, hW2, -⟩
  rw [ex20_a] at hW2 ⊢
  clear hW
  go_wp2_with fail
  refine (wcheck_any g [5] 5 5 rfl (by decide) _ hW2.win).mono ?_
  rintro e w3 ⟨rfl, rfl⟩
  rw [ex20_b]
  go_wp2_with fail
  refine (wcheck_any g [5] 4 4 rfl (by decide) _ hW2.win).mono ?_
  rintro e w4 ⟨rfl, rfl⟩
  rw [ex20_c]
  go_wp2_with fail
  refine (hW2.mark 200 200 rfl (by decide)).mono ?_
  rintro e w5 ⟨rfl, hW5, -⟩
  rw [ex20_d] at hW5 ⊢
  clear hW2
  go_wp2_with fail
  refine (wtop_any g [5, 200] _ hW5.win).mono ?_
  rintro e w6 ⟨rfl, rfl⟩
  rw [ex20_e]
  go_wp2_with fail
  refine (wcheck_any g [5, 200] 72 72 rfl (by decide) _ hW5.win).mono ?_
  rintro e w7 ⟨rfl, rfl⟩
  rw [ex20_f]
  go_wp2_with fail
  refine (wcheck_any g [5, 200] 73 73 rfl (by decide) _ hW5.win).mono ?_
  rintro e w8 ⟨rfl, rfl⟩
  rw [ex20_g]
  go_wp2
  go_ret
  exact ⟨rfl, hW5.below⟩
end Go.Proofs.Ytmgkocoemgpgbaa
