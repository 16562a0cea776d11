/- What the sums of package sponge answer, and what a thing that gives bytes without end is and gives. -/
import Derived.Test.YtlcnepnappfjeabDoorS03d
import Derived.Test.YtlcnepnappfjeabDoorRef03d
namespace Go.Proofs.YtlcnepnappfjeabDoor
open Go.ChangeShapes Go.WideShapes Go.ChangeAt Go.RowKit
set_option linter.unusedSimpArgs false
set_option linter.unusedVariables false

theorem otL_first (f : Nat → Nat) (r n : Nat) (h : n ≤ r) : otL f r n = bsP f n := by
  unfold otL bsP
  refine List.map_congr_left fun k hk => ?_
  have := List.mem_range.1 hk
  unfold smF
  rw [Nat.div_eq_of_lt (by omega), Nat.mod_eq_of_lt (by omega)]
  rfl

/-! ### What gives bytes without end -/
/-- The cells of an Xof. -/
def xofC (f : Nat → Nat) (r c : Nat) : List Value := (stL f).map (Value.int .u64) ++ [Value.int .i64 (r : Int), .int .i64 (c : Int)]
theorem build_xof (f : Nat → Nat) (r : Int) (w : World) : (Instr.build 48 #[(0, arrV f), (1, .int .i64 r)]).run Tryd.prog w = .ok (.agg ((stL f).map (Value.int .u64) ++ [Value.int .i64 r, .int .i64 0]).toArray) w := by kernel_rfl
theorem wpList_build {P : Program} {ops : Array Oper} {rest : List Oper} {op : Oper} {a : Act} {w : World} {Q : Exit → Act → World → Prop} (hgd : op.guard = none) (t : TypeId) (ps : Array (Nat × Operand)) (ho : op.op = .build t ps)
    (vs : Array (Nat × Value)) (hv : ps.map (fun p => (p.1, a.eval p.2)) = vs) (v : Value) (hrun : (Instr.build t vs).run P w = .ok v w) (h : wpList P ops Q rest (a.put op.dst v) w) : wpList P ops Q (op :: rest) a w := by
  refine wpList_plain hgd fun K hK => ?_
  unfold Oper.wp execOp
  have hv' : Array.map (fun x => match x with | (i, x) => (i, a.eval x)) ps = vs := hv
  simp only [ho, hv', Sem.run_bind, hrun, Result.andThen_ok, Sem.run_pure]
  exact hK _ _ h
/-- An Xof in block g of which p bytes were read. -/
def XP (g : Nat) (f : Nat → Nat) (r p : Nat) (w : World) : Prop := ∃ t c, c ≤ r ∧ p = t * r + c ∧ BlkAt g 48 (xofC (itF f t) r c) w
theorem XP.chg {S : Nat → Prop} {g : Nat} {f : Nat → Nat} {r p : Nat} {w w' : World} (h : XP g f r p w) (c : Chg S w w') (hS : ¬ S g) : XP g f r p w' := by
  obtain ⟨t, k, h1, h2, h3⟩ := h
  exact ⟨t, k, h1, h2, h3.chg c hS⟩
theorem XP.kept {g : Nat} {f : Nat → Nat} {r p : Nat} {w w' : World} (h : XP g f r p w) (c : Below w.heap.size w w') : XP g f r p w' := h.chg (Chg.of_below (S := fun _ => False) c) id
theorem XP.lt {g : Nat} {f : Nat → Nat} {r p : Nat} {w : World} (h : XP g f r p w) : g < w.heap.size := by
  obtain ⟨t, k, h1, h2, h3⟩ := h
  exact h3.lt

set_option maxRecDepth 100000 in
set_option maxHeartbeats 400000 in
theorem shake_any (r : Nat) (h1 : 1 ≤ r) (h2 : r ≤ 200) (vb : Value) (l : List UInt8) (w : World) (hr : Rd w vb l) (ht : Tabs w) :
    Calls Tryd.prog 27 #[Value.int .i64 (r : Int), vb] w fun e w' => ∃ g, e = .returned (.pointer (some ⟨g, 0, none⟩)) ∧ w.heap.size ≤ g ∧ XP g (abF r 31 l) r 0 w' ∧ Below w.heap.size w w' := by
  go_enter Tryd.func27, Tryd.ntmps27
  go_wp2_with fail
  refine (absorb_any (r : Int) 31 31 rfl _ l _ hr ht).mono ?_
  rintro e w2 ⟨rfl, hB⟩
  have hbx : BlkAt w2.heap.size 48 (xofC (abF r 31 l) r 0) (w2.alloc (.cells ((stL (abF r 31 l)).map (Value.int .u64) ++ [Value.int .i64 (r : Int), .int .i64 0]).toArray 48)) := BlkAt.fresh rfl rfl
  have hb2 := stepB hB (growB (.cells ((stL (abF r 31 l)).map (Value.int .u64) ++ [Value.int .i64 (r : Int), .int .i64 0]).toArray 48))
  have hge := hB.size
  have HX : Hid (XP w2.heap.size (abF r 31 l) r 0 _) := ⟨0, 0, Nat.zero_le _, by simp, hbx⟩
  have HB : Hid _ := hb2
  have hbd := build_xof (abF r 31 l) r w2
  clear hbx hb2 hB
  generalize hC : ((stL (abF r 31 l)).map (Value.int .u64) ++ [Value.int .i64 (r : Int), .int .i64 0]).toArray = C at hbd HX HB
  clear hC
  go_wp2_with (refine wpList_build (by rfl) 48 _ (by rfl) #[(0, arrV (abF r 31 l)), (1, Value.int .i64 (r : Int))] (by go_simp; done) _ hbd ?_)
  go_ret
  exact ⟨_, rfl, hge, HX.out, HB.out⟩
end Go.Proofs.YtlcnepnappfjeabDoor
