/- What the small functions of package sponge answer: a state's byte, its first bytes, the last block, one block taken in. -/
import Derived.Test.YtlcnepnappfjeabDoorK02f
import Derived.Test.YtlcnepnappfjeabDoorWords
import Derived.Test.YtlcnepnappfjeabDoorKec
import Derived.Test.YtlcnepnappfjeabDoorBase
namespace Go.Proofs.YtlcnepnappfjeabDoor
open Go.ChangeShapes Go.WideShapes Go.ChangeAt Go.RowKit
set_option linter.unusedSimpArgs false
set_option linter.unusedVariables false

theorem byF_shr (f : Nat → Nat) (n : Nat) : ((f (n / 8) : Nat) : Int) / 2 ^ (8 * (n % 8)) % 256 = ((byF f n).toNat : Int) := stB_shr (f (n / 8)) (n % 8)

set_option maxHeartbeats 400000 in
theorem byteAt_any (A : Array Value) (f : Nat → Nat) (hf : ∀ i, f i < 18446744073709551616) (hA : A = ((stL f).map (Value.int .u64)).toArray) (n : Nat) (hn : n < 200) (w : World) :
    Calls Tryd.prog 35 #[.agg A, .int .i64 (n : Int)] w fun e w' => e = .returned (.int .u8 ((byF f n).toNat : Int)) ∧ Below w.heap.size w w' := by
  have HA : Hid _ := hA
  have hq := hf (n / 8)
  clear hA hf
  obtain ⟨d, hd⟩ : ∃ d : Nat, d = n / 8 := ⟨_, rfl⟩
  obtain ⟨m, hm⟩ : ∃ m : Nat, m = n % 8 := ⟨_, rfl⟩
  have td : (n : Int).tdiv 8 = (d : Int) := by rw [hd, Int.tdiv_eq_ediv_of_nonneg (by omega)]; omega
  have tm : (n : Int).tmod 8 = (m : Int) := by rw [hm, Int.tmod_eq_emod_of_nonneg (by omega)]; omega
  have bd : (d : Int) < 25 := by omega
  have bm : (m : Int) < 8 := by omega
  have w8 : IntKind.i64.wrap (8 * (m : Int)) = 8 * (m : Int) := IntWalk.i64_in _ (by omega)
  have n8 : (8 * (m : Int)).toNat = 8 * m := by omega
  have HE : Hid _ := byF_shr f n
  rw [← hm] at HE
  rw [← hd] at HE hq
  have r0 : RowAt .u64 46 w.heap.size 25 (stL f) (w.alloc (.cells A 46)) := RowAt.fresh (stL f) HA.out rfl (stL_length f).symm (stL_ne f) max25
  have hc := r0.cell (j := d) (by rw [stL_length]; omega)
  rw [stL_get _ _ (by omega)] at hc
  have hb : Below w.heap.size w (w.alloc (.cells A 46)) := growB _
  generalize f d = q at hc HE hq
  clear r0 HA hd hm
  go_enter Tryd.func35, Tryd.ntmps35
  go_wp2
  go_ret
  exact ⟨retI (by first | exact HE.out | simpa using HE.out), hb⟩

theorem New.of_fill {e : TypeId} {w wb : World} {B n : Nat} {f : Nat → UInt8} {wr : World} (h : Fill e wb B n f n wr) (hb : Below w.heap.size w wb) : New e w (.slice (some ⟨B, 0, none⟩) n n) ((List.range n).map f) wr := h.done.from hb
theorem Fill.kept {e : TypeId} {w : World} {B n : Nat} {f : Nat → UInt8} {k : Nat} {wr w2 : World} (h : Fill e w B n f k wr) (hb : Below wr.heap.size wr w2) : Fill e w B n f k w2 := ⟨ownsRow_below h.1 hb, h.2.trans (hb.mono h.2.size)⟩

end Go.Proofs.YtlcnepnappfjeabDoor
