/- What the document's own sums and differences of polynomials are, and the factors' roots: contracts of the reference of layer 11, second part. -/
import Derived.Test.YtbladcgdbhogcabDoorRef11a
namespace Go.Proofs.YtbladcgdbhogcabDoor
open Go.ChangeShapes Go.WideShapes Go.ChangeAt Go.RowKit
set_option linter.unusedSimpArgs false
set_option linter.unusedVariables false

theorem cellB11 {w W : World} {p : Addr} {v : Value} (h : w.cell? p = some v) (hb : Below w.heap.size w W) : W.cell? p = some v := by
  rw [hb.cell (World.block_lt_of_cell? _ _ h)]
  exact h
theorem Wrote.ofdrew11 {g : Nat} {w w' : World} (h : Wrote g w.drew w') : Wrote g w w' := ⟨h.size, h.other, fun B a hB hb => h.below B a hB hb.drew⟩
/-- A number is stored into a row. -/
theorem wp_store_int {e : TypeId} {g cap j : Nat} {l : List Int} {w : World} {op : Oper} {a : Act} {K : Act → World → Prop} {Q : Exit → Act → World → Prop} (x y : Operand) (ho : op.op = .store 3 x y) (hx : a.eval x = .pointer (some ⟨g, j, none⟩)) (X : Int) (hy : a.eval y = .int .i64 X)
    (hr : RowAt .i64 e g cap l w) (hj : j < l.length)
    (h : ∀ w', RowAt .i64 e g cap (l.set j X) w' → Wrote g w w' → K (a.put op.dst undef) w') : op.wp Tryd.prog a w K Q := by
  have hc := hr.cell hj
  have hf := hr.free j
  have h2 := h _ (hr.set j X) (Wrote.set g j w _)
  unfold Oper.wp execOp
  simp only [ho, hx, hy]
  go_simp
  exact h2
theorem wpList_store_int {e : TypeId} {g cap j : Nat} {l : List Int} {w : World} {ops : Array Oper} {rest : List Oper} {op : Oper} {a : Act} {Q : Exit → Act → World → Prop} (hgd : op.guard = none) (x y : Operand) (ho : op.op = .store 3 x y) (hx : a.eval x = .pointer (some ⟨g, j, none⟩)) (X : Int) (hy : a.eval y = .int .i64 X)
    (hr : RowAt .i64 e g cap l w) (hj : j < l.length)
    (h : ∀ w', RowAt .i64 e g cap (l.set j X) w' → Wrote g w w' → wpList Tryd.prog ops Q rest (a.put op.dst undef) w') : wpList Tryd.prog ops Q (op :: rest) a w :=
  wpList_plain hgd fun _ hK => wp_store_int x y ho hx X hy hr hj fun w' h1 h2 => hK _ _ (h w' h1 h2)
theorem pw_pz (x : FZ) (n : Nat) : pwZ ((x.val : Nat) : Int) (n : Int) = (pz x n).val := by
  unfold pwZ
  rw [if_neg (by omega), rsZ_nat, Nat.mod_eq_of_lt x.isLt, Int.toNat_natCast, ← nz_val, pz_nz, nz_self]

set_option maxRecDepth 100000 in
set_option maxHeartbeats 1000000 in
theorem root11_any (i : Nat) (hi : i < 128) (I : Int) (hI : I = (i : Int)) (w : World) :
    Calls Tryd.prog 22 #[.int .i64 I] w fun e w' => e = .returned (.int .i64 (((zr i).val : Nat) : Int)) ∧ w' = w := by
  subst hI
  have hm : bits .and .i64 (i : Int) 127 = (i : Int) := by
    have h : ∀ i : Fin 128, bits .and .i64 ((i.val : Nat) : Int) 127 = ((i.val : Nat) : Int) := by decide +kernel
    exact h ⟨i, hi⟩
  have hb : tnJ i 7 < 128 := tnJ_lt i 7
  have HP : Hid (pwZ 17 ((2 * tnJ i 7 + 1 : Nat) : Int) = (zr i).val) := by
    show _ = _
    unfold pwZ zr
    rw [if_neg (by omega), ← show nz 17 = (17 : FZ) from rfl, ← pz_nz, nz_val]
    rfl
  go_enter Tryd.func22, Tryd.ntmps22
  go_wp2_with fail
  refine (turnedZ_any (i : Int) i hm (by omega) _).mono ?_
  rintro e w1 ⟨rfl, rfl⟩
  generalize tnJ i 7 = t at hb HP
  obtain ⟨d, hd⟩ : ∃ d : Nat, d = 2 * t := ⟨_, rfl⟩
  obtain ⟨s, hs⟩ : ∃ s : Nat, s = 2 * t + 1 := ⟨_, rfl⟩
  have x1 : IntKind.i64.wrap (2 * (t : Int)) = (d : Int) := by rw [IntWalk.i64_in _ (by omega)]; omega
  have x2 : IntKind.i64.wrap ((d : Int) + 1) = (s : Int) := by rw [IntWalk.i64_in _ (by omega)]; omega
  have hs2 : s ≤ 300 := by omega
  rw [← hs] at HP
  clear hd hs hm
  go_wp2_with fail
  refine (powerZ_any 17 (s : Int) (by decide) ⟨by omega, by omega⟩ _).mono ?_
  rintro e w2 ⟨rfl, rfl⟩
  rw [HP.out]
  go_wp2
  go_ret
  exact ⟨rfl, rfl⟩
end Go.Proofs.YtbladcgdbhogcabDoor
