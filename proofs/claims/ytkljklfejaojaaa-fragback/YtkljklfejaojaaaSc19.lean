/- What the laws over scripts share: names, calls read out of a script, bytes made in a region. -/
import Derived.Test.YtkljklfejaojaaaAw19
import Derived.Test.YtkljklfejaojaaaFgMath5
import Derived.Test.YtkljklfejaojaaaActF
namespace Go.Proofs.Ytkljklfejaojaaa
open Go.ChangeShapes Go.WideShapes Go.ChangeAt Go.RowKit
set_option linter.unusedSimpArgs false
set_option linter.unusedVariables false

def nmsF : List (List UInt8) := [[97], [98], [], [97, 32, 98]]
def nmF (X : Nat) : List UInt8 := nmsF.getD X []
theorem nmF_len (X : Nat) : (nmF X).length ≤ 3 := by
  unfold nmF
  match X with
  | 0 => decide
  | 1 => decide
  | 2 => decide
  | 3 => decide
  | n + 4 => simp [nmsF]
def nmC : List Value := [.string ⟨#[97]⟩, .string ⟨#[98]⟩, .string ⟨#[]⟩, .string ⟨#[97, 32, 98]⟩]
theorem nmC_at {X : Nat} (h : X ≤ 3) : nmC[X]? = some (.string ⟨(nmF X).toArray⟩) := by
  match X, h with
  | 0, _ => rfl
  | 1, _ => rfl
  | 2, _ => rfl
  | 3, _ => rfl
/-- The four names are laid. -/
theorem wpList_names {ops : Array Oper} {rest : List Oper} {op : Oper} {a : Act} {w : World} {Q : Exit → Act → World → Prop} (hgd : op.guard = none)
    (ho : op.op = .buildSlice 28 4 #[(0, .const (.string ⟨#[97]⟩)), (1, .const (.string ⟨#[98]⟩)), (2, .const (.string ⟨#[]⟩)), (3, .const (.string ⟨#[97, 32, 98]⟩))])
    (h : ∀ w', BlkAt w.heap.size 9 nmC w' → Below w.heap.size w w' → wpList Try.prog ops Q rest (a.put op.dst (.slice (some ⟨w.heap.size, 0, none⟩) 4 4)) w') : wpList Try.prog ops Q (op :: rest) a w := by
  have hrun : (Instr.buildSlice 28 4 #[(0, .string ⟨#[97]⟩), (1, .string ⟨#[98]⟩), (2, .string ⟨#[]⟩), (3, .string ⟨#[97, 32, 98]⟩)]).run Try.prog w = .ok (.slice (some ⟨w.heap.size, 0, none⟩) 4 4) (w.alloc (.cells nmC.toArray 9)) := by kernel_rfl
  refine wpList_plain hgd fun K hK => ?_
  unfold Oper.wp execOp
  simp only [ho, List.map_toArray, List.map_cons, List.map_nil, Act.eval, Sem.run_bind, hrun, Result.andThen_ok, Sem.run_pure]
  exact hK _ _ (h _ (BlkAt.fresh rfl rfl) (growB _))
theorem acInfo (q : Ac) : (Try.prog.info? 43).map (·.size) = some (acL q).length := by
  show _ = some 8
  kernel_rfl
def acZ : List Value := [.int .i64 0, .int .i64 0, .int .i64 0, .int .i64 0, .int .i64 0, .int .i64 0, .int .u8 0, .int .u64 0]
theorem alloc_acF (w : World) : (Instr.alloc 43 true (.tuple #[])).run Try.prog w = .ok (.pointer (some ⟨w.heap.size, 0, none⟩)) (w.alloc (.cells acZ.toArray 43)) := by kernel_rfl
/-- A call in a variable. -/
def AcB (g : Nat) (q : Ac) (W : World) : Prop := BlkAt g 43 (acL q) W
theorem AcB.cell {g : Nat} {q : Ac} {W : World} (h : AcB g q W) (j : Nat) : W.cell? ⟨g, j, none⟩ = (acL q)[j]? := BlkAt.cell h j
theorem AcB.kept {g : Nat} {q : Ac} {w w' : World} (h : AcB g q w) (hb : Below w.heap.size w w') : AcB g q w' := BlkAt.kept h hb
theorem AcB.cp {g : Nat} {q : Ac} {S : Nat → Prop} {w w' : World} (h : AcB g q w) (c : Cp S w w') : AcB g q w' := c.oth _ _ _ h (by decide) (by decide) (by decide)
theorem acL_one (q : Ac) : (acL q).toArray.all (·.oneCell') = true := by kernel_rfl
theorem wp_make19 {P : Program} {e : TypeId} {w : World} {o : Oper} {a : Act} {K : Act → World → Prop} {Q : Exit → Act → World → Prop} (l c : Operand) (t : TypeId) (ho : o.op = .makeSlice t l c) (hu : P.underlying t = some (.slice e))
    (hinfo : (P.info? e).map (fun i => (i.zero, i.size, i.bytes)) = some (some (.int .u8 0), 1, 1)) (n : Nat) (hl : a.eval l = .int .i64 (n : Int)) (hc : a.eval c = .int .i64 (n : Int)) (hn : n ≤ 1000000)
    (h : ∀ g w', w.heap.size ≤ g → New e w (.slice (some ⟨g, 0, none⟩) n n) (nzF n) w' → K (a.put o.dst (.slice (some ⟨g, 0, none⟩) n n)) w') : o.wp P a w K Q := by
  obtain ⟨i, hi, hz0, hz1, hz2⟩ := info_parts hinfo
  obtain ⟨w', hrun, r1, r2⟩ := run_make_full (P := P) w w.heap.size t e i _ 1 hu hi hz0 hz1 .i64 .i64 n (by rw [hz2]; omega) (by unfold maxLen; omega) (Nat.le_refl _)
  unfold Oper.wp
  simp [execOp, ho, hl, hc, hrun, Result.andThen]
  rw [Nat.mul_one] at r1
  exact h _ w' (Nat.le_refl _) (New.made r1 r2)
/-- Bytes in a block that a buffer keeps off. -/
theorem OutK.blk {B g : Nat} (o n c : Nat) (l : List UInt8) : OutK (fun k => B ≤ k ∧ k ≠ g) (.slice (some ⟨g, o, none⟩) n c) l := by
  intro b o' m k e _ hk
  simp only [Value.slice.injEq, Option.some.injEq, Addr.mk.injEq] at e
  exact hk.2 e.1.1.symm
/-- A buffer under way in a law: since B its blocks were made. -/
structure PlB (B : Nat) (gb : Nat) (pm am : Int) (i : Nat) (bf : Bf) (w : World) : Prop where
  bu : BuP (fun k => B ≤ k) w gb bf
  en : EnS bf.l
  len : bf.l.length ≤ i
  lim : LimB bf
  pm : bf.pm = pm
  am : bf.am = am
theorem PlB.kept {B gb : Nat} {pm am : Int} {i : Nat} {bf : Bf} {w w' : World} (h : PlB B gb pm am i bf w) (hb : Below w.heap.size w w') : PlB B gb pm am i bf w' := ⟨h.bu.kept hb, h.en, h.len, h.lim, h.pm, h.am⟩
/-- A piece is put in by a law: the body's own blocks are those of X. -/
theorem PlB.add {B gb : Nat} {pm am : Int} {i : Nat} {bf : Bf} {w0 w : World} (h : PlB B gb pm am i bf w0) (hB : B ≤ w0.heap.size) (hb0 : Below w0.heap.size w0 w) (hi : i ≤ 900) (X : Nat → Prop) (hX : ∀ k, X k → w0.heap.size ≤ k ∧ k < w.heap.size)
    (p : List UInt8) (hp : p.length ≤ 1000) (msg part parts : Int) (body : List UInt8) (vb : Value) (now : Nat) (hnow : now < 18446744073709551616) (hb : Rd w vb body) (ho : OutK (fun k => B ≤ k ∧ ¬ X k) vb body) :
    Calls Try.prog 17 #[pV gb, .string ⟨p.toArray⟩, .int .i64 msg, .int .i64 part, .int .i64 parts, vb, .int .u64 (now : Int)] w fun e w' => ∃ v, e = .returned (.tuple #[v, .int .i64 (adF bf p msg part parts body now).2.2]) ∧ Rd w' v (adF bf p msg part parts body now).2.1 ∧ PlB B gb pm am (i + 1) (adF bf p msg part parts body now).1 w' ∧ Cp (fun k => B ≤ k ∧ ¬ X k) w w' ∧ BuP (fun k => B ≤ k ∧ ¬ X k) w' gb (adF bf p msg part parts body now).1 := by
  have hbu : BuP (fun k => B ≤ k ∧ ¬ X k) w gb bf := (h.bu.mono fun k hk hk2 => ⟨hk2, fun hx => by have := (hX k hx).1; omega⟩).kept hb0
  refine (add_any bf h.en (by have := h.len; omega) h.lim p hp msg part parts body vb now hnow gb _ w (fun q hq => ⟨Nat.le_trans hB (Nat.le_trans hb0.size hq), fun hx => by have := (hX q hx).2; omega⟩) hbu hb ho).mono ?_
  rintro e w' ⟨v, rfl, hr, hbu', c⟩
  have hen := EnS.adF h.en hp msg part parts body hnow
  have hli := adF_lim bf p msg part parts body now
  exact ⟨v, rfl, hr, ⟨hbu'.mono fun k _ hk => hk.1, hen.1, Nat.le_trans hen.2 (Nat.succ_le_succ h.len), h.lim.ad _ _ _ _ _ _, hli.1.trans h.pm, hli.2.1.trans h.am⟩, c, hbu'⟩
theorem rd_byte {w : World} {e : TypeId} (x : UInt8) {b : Nat} (hb : b = w.heap.size) : Rd (w.alloc (.cells #[.int .u8 (x.toNat : Int)] e)) (.slice (some ⟨b, 0, none⟩) 1 1) [x] := by
  subst hb
  refine ⟨_, 1, rfl, Nat.le_refl _, by unfold maxLen; omega, (fun h => by cases h), .inr ⟨w.heap.size, 0, rfl, fun i hi => ?_⟩⟩
  have hi0 : i = 0 := by simpa using hi
  subst hi0
  exact (BlkAt.fresh (w := w) (ty := e) (cs := [.int .u8 (x.toNat : Int)]) rfl rfl).cell 0
end Go.Proofs.Ytkljklfejaojaaa
