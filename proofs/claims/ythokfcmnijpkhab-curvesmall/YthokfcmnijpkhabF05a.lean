/- What sums, differences and products of words answer, and a + w b in four words: contracts of package field, first part. -/
import Derived.Test.YthokfcmnijpkhabFMath3
import Derived.Test.YthokfcmnijpkhabArrB
import Derived.Test.YthokfcmnijpkhabRegS
import Derived.Test.YthokfcmnijpkhabEqRow
import Derived.Test.YthokfcmnijpkhabChecked
import Derived.Laws.Externs
import Derived.Lib.Mul64
import Derived.OwnWalk
namespace Go.Proofs.Ythokfcmnijpkhab
open Go.ChangeShapes Go.WideShapes Go.ChangeAt Go.RowKit
set_option linter.unusedSimpArgs false
set_option linter.unusedVariables false

/-- Four words as a value. -/
abbrev elV (l : List Nat) : Value := .agg ((nI l).map (Value.int .u64)).toArray
theorem elInfo {l : List Nat} (h : El4 l) : (Try.prog.info? 33).map (·.size) = some (nI l).length := by rw [h.len]; kernel_rfl
theorem elMax {l : List Nat} (h : El4 l) : (nI l).length ≤ maxLen := by rw [h.len]; decide
/-- Four noughts. -/
def z4 : List Nat := [0, 0, 0, 0]
theorem z4_el : El4 z4 := El4.mk4 (by decide) (by decide) (by decide) (by decide)
theorem z4_wv : wv z4 = 0 := by decide
theorem z4_get (i : Nat) : z4.getD i 0 = 0 := by
  match i with
  | 0 => rfl
  | 1 => rfl
  | 2 => rfl
  | 3 => rfl
  | (n + 4) => simp [z4]
theorem alloc_el (w : World) : (Instr.alloc 33 true (.tuple #[])).run Try.prog w = .ok (.pointer (some ⟨w.heap.size, 0, none⟩)) (w.alloc (.cells ((nI z4).map (Value.int .u64)).toArray 33)) := by kernel_rfl

/-! ### The machine's sums -/
/-- The model's entry for differences with a borrow. -/
def subEntry : Array Value → Sem Value := fun args => do
  let (x, y, b) ← Extern.MathBitsCarry.three "Sub64" args
  pure (Extern.MathBitsCarry.pair ((x + Extern.MathBitsCarry.m64 - y - b) % Extern.MathBitsCarry.m64) (if x < y + b then 1 else 0))
theorem run_subEntry {P : Program} (x y b : Nat) (hb : b ≤ 1) (w : World) :
    (subEntry #[.int .u64 x, .int .u64 y, .int .u64 b]).run P w = .ok (.tuple #[.int .u64 (((x + 18446744073709551616 - y - b) % 18446744073709551616 : Nat) : Int), .int .u64 ((if x < y + b then 1 else 0 : Nat) : Int)]) w := by
  have : b = 0 ∨ b = 1 := by omega
  rcases this with rfl | rfl <;> rfl
theorem add64_run (x y : Nat) : ∃ s c : Nat, s < 18446744073709551616 ∧ s + 18446744073709551616 * c = x + y ∧
    ∀ w : World, (callFunc 29 #[.int .u64 (x : Int), .int .u64 (y : Int), .int .u64 0]).run Try.prog w = .ok (.value (.tuple #[.int .u64 (s : Int), .int .u64 (c : Int)])) w := by
  refine ⟨(x + y) % 18446744073709551616, (x + y) / 18446744073709551616, Nat.mod_lt _ (by decide), Nat.mod_add_div _ _, fun w => ?_⟩
  rw [run_callFunc_extern Try.func29 (by kernel_rfl) (by kernel_rfl) (by kernel_rfl) (e := add64Entry) (by kernel_rfl), run_add64 _ _ 0 (by omega) (by omega) (by omega) (by omega)]
  simp only [Result.andThen]
  congr 5 <;> omega
theorem sub64_run (x y b : Nat) (hx : x < 18446744073709551616) (hy : y < 18446744073709551616) (hb : b ≤ 1) : ∃ d b' : Nat, d < 18446744073709551616 ∧ b' ≤ 1 ∧ d + y + b = x + 18446744073709551616 * b' ∧
    ∀ w : World, (callFunc 30 #[.int .u64 (x : Int), .int .u64 (y : Int), .int .u64 (b : Int)]).run Try.prog w = .ok (.value (.tuple #[.int .u64 (d : Int), .int .u64 (b' : Int)])) w := by
  refine ⟨(x + 18446744073709551616 - y - b) % 18446744073709551616, if x < y + b then 1 else 0, Nat.mod_lt _ (by decide), by split <;> omega, by split <;> omega, fun w => ?_⟩
  rw [run_callFunc_extern Try.func30 (by kernel_rfl) (by kernel_rfl) (by kernel_rfl) (e := subEntry) (by kernel_rfl), run_subEntry x y b hb]
  rfl
theorem mask32 (x : Nat) (hx : x < 18446744073709551616) : bits .and .u64 (x : Int) 4294967295 = ((x % 4294967296 : Nat) : Int) := by
  have := u64_and_nat x 4294967295 hx (by decide)
  rw [show (4294967295 : Int) = ((4294967295 : Nat) : Int) from rfl, this, show (4294967295 : Nat) = 2 ^ 32 - 1 from rfl, Nat.and_two_pow_sub_one_eq_mod]
theorem mask63 (x : Nat) (hx : x < 18446744073709551616) : bits .and .u64 (x : Int) 9223372036854775807 = ((x % 9223372036854775808 : Nat) : Int) := by
  have := u64_and_nat x 9223372036854775807 hx (by decide)
  rw [show (9223372036854775807 : Int) = ((9223372036854775807 : Nat) : Int) from rfl, this, show (9223372036854775807 : Nat) = 2 ^ 63 - 1 from rfl, Nat.and_two_pow_sub_one_eq_mod]

theorem wrapN (n : Nat) (h : n < 18446744073709551616) : IntKind.u64.wrap (n : Int) = (n : Int) := by rw [IntKind.wrap_u64]; omega
theorem wrapM (a b n : Nat) (hn : n = a * b) (h : n < 18446744073709551616) : IntKind.u64.wrap ((a : Int) * (b : Int)) = (n : Int) := by
  rw [← Int.natCast_mul, ← hn]
  exact wrapN n h
theorem wrapA (a b n : Nat) (hn : n = a + b) (h : n < 18446744073709551616) : IntKind.u64.wrap ((a : Int) + (b : Int)) = (n : Int) := by
  rw [← Int.natCast_add, ← hn]
  exact wrapN n h

set_option maxHeartbeats 1000000 in
theorem mul64_any (x y : Nat) (hx : x < 18446744073709551616) (hy : y < 18446744073709551616) (w : World) :
    Calls Try.prog 28 #[.int .u64 (x : Int), .int .u64 (y : Int)] w fun e w' => (∃ hi lo : Nat, e = .returned (.tuple #[.int .u64 (hi : Int), .int .u64 (lo : Int)]) ∧ hi < 18446744073709551616 ∧ lo < 18446744073709551616 ∧ lo + 18446744073709551616 * hi = x * y) ∧ w' = w := by
  obtain ⟨h1, h2, h3, h4⟩ := Lib.mul64_hi x y hx hy
  have hlt : x * y / 18446744073709551616 < 18446744073709551616 := by
    have : x * y < 18446744073709551616 * 18446744073709551616 := Nat.mul_lt_mul'' hx hy
    omega
  obtain ⟨x0, hx0⟩ : ∃ n : Nat, n = x % 4294967296 := ⟨_, rfl⟩
  obtain ⟨x1, hx1⟩ : ∃ n : Nat, n = x / 4294967296 := ⟨_, rfl⟩
  obtain ⟨y0, hy0⟩ : ∃ n : Nat, n = y % 4294967296 := ⟨_, rfl⟩
  obtain ⟨y1, hy1⟩ : ∃ n : Nat, n = y / 4294967296 := ⟨_, rfl⟩
  rw [← hx0, ← hy0] at h1
  rw [← hx0, ← hy0, ← hx1] at h2
  rw [← hx0, ← hy0, ← hx1, ← hy1] at h3 h4
  obtain ⟨p, hp⟩ : ∃ n : Nat, n = x0 * y0 := ⟨_, rfl⟩
  obtain ⟨p1, hp1⟩ : ∃ n : Nat, n = p / 4294967296 := ⟨_, rfl⟩
  obtain ⟨q, hq⟩ : ∃ n : Nat, n = x1 * y0 := ⟨_, rfl⟩
  obtain ⟨t, ht⟩ : ∃ n : Nat, n = q + p1 := ⟨_, rfl⟩
  obtain ⟨t0, ht0⟩ : ∃ n : Nat, n = t % 4294967296 := ⟨_, rfl⟩
  obtain ⟨t1, ht1⟩ : ∃ n : Nat, n = t / 4294967296 := ⟨_, rfl⟩
  obtain ⟨r, hr⟩ : ∃ n : Nat, n = x0 * y1 := ⟨_, rfl⟩
  obtain ⟨u, hu⟩ : ∃ n : Nat, n = t0 + r := ⟨_, rfl⟩
  obtain ⟨u1, hu1⟩ : ∃ n : Nat, n = u / 4294967296 := ⟨_, rfl⟩
  obtain ⟨s, hs⟩ : ∃ n : Nat, n = x1 * y1 := ⟨_, rfl⟩
  obtain ⟨v, hv⟩ : ∃ n : Nat, n = s + t1 := ⟨_, rfl⟩
  obtain ⟨H, hH⟩ : ∃ n : Nat, n = v + u1 := ⟨_, rfl⟩
  obtain ⟨L, hL⟩ : ∃ n : Nat, n = x * y % 18446744073709551616 := ⟨_, rfl⟩
  rw [← hp] at h1
  rw [← hp, ← hq, ← hp1, ← ht] at h2
  rw [← hp, ← hq, ← hp1, ← ht, ← ht0, ← hr, ← hu] at h3
  rw [← hp, ← hq, ← hp1, ← ht, ← ht0, ← ht1, ← hr, ← hu, ← hu1, ← hs, ← hv, ← hH] at h4
  have e1 : bits .and .u64 (x : Int) 4294967295 = (x0 : Int) := by rw [mask32 x hx, hx0]
  have e2 : bits .and .u64 (y : Int) 4294967295 = (y0 : Int) := by rw [mask32 y hy, hy0]
  have e3 : (x : Int) / 4294967296 = (x1 : Int) := by omega
  have e4 : (y : Int) / 4294967296 = (y1 : Int) := by omega
  have e5 : IntKind.u64.wrap ((x0 : Int) * (y0 : Int)) = (p : Int) := wrapM _ _ _ hp h1
  have e6 : IntKind.u64.wrap ((x1 : Int) * (y0 : Int)) = (q : Int) := wrapM _ _ _ hq (by omega)
  have e7 : (p : Int) / 4294967296 = (p1 : Int) := by omega
  have e8 : IntKind.u64.wrap ((q : Int) + (p1 : Int)) = (t : Int) := wrapA _ _ _ ht h2
  have e9 : bits .and .u64 (t : Int) 4294967295 = (t0 : Int) := by rw [mask32 t h2, ht0]
  have e10 : (t : Int) / 4294967296 = (t1 : Int) := by omega
  have e11 : IntKind.u64.wrap ((x0 : Int) * (y1 : Int)) = (r : Int) := wrapM _ _ _ hr (by omega)
  have e12 : IntKind.u64.wrap ((t0 : Int) + (r : Int)) = (u : Int) := wrapA _ _ _ hu h3
  have e13 : IntKind.u64.wrap ((x1 : Int) * (y1 : Int)) = (s : Int) := wrapM _ _ _ hs (by omega)
  have e14 : IntKind.u64.wrap ((s : Int) + (t1 : Int)) = (v : Int) := wrapA _ _ _ hv (by omega)
  have e15 : (u : Int) / 4294967296 = (u1 : Int) := by omega
  have e16 : IntKind.u64.wrap ((v : Int) + (u1 : Int)) = (H : Int) := wrapA _ _ _ hH (by omega)
  have e17 : IntKind.u64.wrap ((x : Int) * (y : Int)) = (L : Int) := by rw [← Int.natCast_mul, IntKind.wrap_u64]; omega
  have HF : Hid (H < 18446744073709551616 ∧ L < 18446744073709551616 ∧ L + 18446744073709551616 * H = x * y) := ⟨by omega, by omega, by omega⟩
  clear hx hy hlt hx0 hx1 hy0 hy1 h1 h2 h3 h4 hp hp1 hq ht ht0 ht1 hr hu hu1 hs hv hH hL
  go_enter Try.func28, Try.ntmps28
  go_wp2
  go_ret2
  exact ⟨⟨H, L, rfl, HF.out.1, HF.out.2.1, HF.out.2.2⟩, rfl⟩

theorem cellK {w W : World} {p : Addr} {v : Value} (h : w.cell? p = some v) (hb : Below w.heap.size w W) : W.cell? p = some v := by
  rw [hb.cell (World.block_lt_of_cell? _ _ h)]
  exact h
/-- A variable is made, all noughts, in a region whose order is open. -/
theorem wp_alloc_el {w0 : World} {op : Oper} {a : Act} {w : World} {K : Act → World → Prop} {Q : Exit → Act → World → Prop} (hB : Below w0.heap.size w0 w) (ho : op.op = .alloc 33)
    (h : ∀ g w', RowAt .u64 33 g 4 (nI z4) w' → w0.heap.size ≤ g → Below w0.heap.size w0 w' → K (a.put op.dst (.pointer (some ⟨g, 0, none⟩))) w') : op.wp Try.prog a w K Q := by
  unfold Oper.wp execOp
  simp only [ho, Sem.run_bind, alloc_el, Result.andThen_ok, Sem.run_pure]
  refine h _ _ (RowAt.fresh (nI z4) rfl rfl z4_el.len.symm z4_el.ne (elMax z4_el)) hB.size (stepB hB (growB _))
/-- A whole array is stored at the head of a row of the region's own. -/
theorem wp_store_el {w0 : World} {g : Nat} {l l2 : List Nat} {op : Oper} {a : Act} {w : World} {K : Act → World → Prop} {Q : Exit → Act → World → Prop} (hB : Below w0.heap.size w0 w) (hge : w0.heap.size ≤ g) (x y : Operand) (ho : op.op = .store 33 x y)
    (hx : a.eval x = .pointer (some ⟨g, 0, none⟩)) (hy : a.eval y = elV l2) (hr : RowAt .u64 33 g 4 (nI l) w) (hl : El4 l) (hl2 : El4 l2)
    (h : ∀ w', RowAt .u64 33 g 4 (nI l2) w' → Below w0.heap.size w0 w' → K (a.put op.dst undef) w') : op.wp Try.prog a w K Q :=
  wp_store_row 33 x y ho (nI l2) hx hy hr (by rw [hl.len, hl2.len]) (elInfo hl) fun w' h1 h2 => h w' h1 (h2.below _ _ hge hB)

/-! ### Two results, one or both of them in a block -/
theorem bodyPost_row2 {k : IntKind} {e : TypeId} {g cap : Nat} {l : List Int} {P : Program} {fn : Func} {p q : Tmp} {ty : TypeId} {d : TypeDesc} {v : Value} {R : Ending → World → Prop} {a : Act} {w : World} (h : fn.results = #[.cell p ty, .tmp q]) (hd : a.defers = [])
    (hp : a.tmps.getD p undef = .pointer (some ⟨g, 0, none⟩)) (hq : a.tmps.getD q undef = v) (hr : RowAt k e g cap l w) (hu : P.underlying ty = some d) (hrow : d.isRow = true) (hi : (P.info? ty).map (·.size) = some l.length)
    (hR : R (.returned (.tuple #[.agg (l.map (Value.int k)).toArray, v])) w) : bodyPost P fn R .ret a w := by
  refine bodyPost_ret ?_ hd hR
  have hp' : a.tmps[p]?.getD undef = .pointer (some ⟨g, 0, none⟩) := by simpa using hp
  have hq' : a.tmps[q]?.getD undef = v := by simpa using hq
  have hl := hr.load (P := P) hu hrow hi
  simp [results, h, hp', hq', asAddr, hl]
theorem bodyPost_rows {k : IntKind} {e : TypeId} {g g2 cap cap2 : Nat} {l l2 : List Int} {P : Program} {fn : Func} {p q : Tmp} {ty : TypeId} {d : TypeDesc} {R : Ending → World → Prop} {a : Act} {w : World} (h : fn.results = #[.cell p ty, .cell q ty]) (hd : a.defers = [])
    (hp : a.tmps.getD p undef = .pointer (some ⟨g, 0, none⟩)) (hq : a.tmps.getD q undef = .pointer (some ⟨g2, 0, none⟩)) (hr : RowAt k e g cap l w) (hr2 : RowAt k e g2 cap2 l2 w) (hu : P.underlying ty = some d) (hrow : d.isRow = true) (hi : (P.info? ty).map (·.size) = some l.length) (hi2 : (P.info? ty).map (·.size) = some l2.length)
    (hR : R (.returned (.tuple #[.agg (l.map (Value.int k)).toArray, .agg (l2.map (Value.int k)).toArray])) w) : bodyPost P fn R .ret a w := by
  refine bodyPost_ret ?_ hd hR
  have hp' : a.tmps[p]?.getD undef = .pointer (some ⟨g, 0, none⟩) := by simpa using hp
  have hq' : a.tmps[q]?.getD undef = .pointer (some ⟨g2, 0, none⟩) := by simpa using hq
  have hl := hr.load (P := P) hu hrow hi
  have hl2 := hr2.load (P := P) hu hrow hi2
  simp [results, h, hp', hq', asAddr, hl, hl2]

/-! ### a + w b -/
set_option maxRecDepth 100000 in
set_option maxHeartbeats 2000000 in
theorem addTimes_any (A B : Array Value) (a b : List Nat) (c : Nat) (C : Int) (ha : El4 a) (hb : El4 b) (hc : c < 18446744073709551616) (hA : A = ((nI a).map (Value.int .u64)).toArray) (hB : B = ((nI b).map (Value.int .u64)).toArray) (hC : C = (c : Int)) (w : World) :
    Calls Try.prog 21 #[.agg A, .int .u64 C, .agg B] w fun e w' => ∃ (r : List Nat) (o : Nat), e = .returned (.tuple #[elV r, .int .u64 (o : Int)]) ∧ El4 r ∧ o < 18446744073709551616 ∧
      wv r + 115792089237316195423570985008687907853269984665640564039457584007913129639936 * o = wv a + c * wv b ∧ Below w.heap.size w w' := by
  subst hC
  go_enter Try.func21, Try.ntmps21
  go_wp2_with (refine wpList_box_row (k := .u64) rfl 33 _ rfl (nI a) (by rw [← hA]; rfl) ha.ne (elMax ha) ?_)
  intro w1 r1 b1 s1
  rw [ha.len] at r1
  go_wp2_with (refine wpList_box_row (k := .u64) rfl 33 _ rfl (nI b) (by rw [← hB]; rfl) hb.ne (elMax hb) ?_)
  intro w2 r2 b2 s2
  rw [hb.len] at r2
  go_wp2_with (refine wpList_alloc_row (k := .u64) rfl 33 rfl (nI z4) (alloc_el _) z4_el.ne (elMax z4_el) ?_)
  intro w3 r3 b3 s3
  rw [z4_el.len] at r3
  have hr1 := (r1.kept b2).kept b3
  have hr2 := r2.kept b3
  have hbw := stepB (stepB b1 b2) b3
  have n1 : w.heap.size < w1.heap.size := by have := s1.out; omega
  have n2 : w1.heap.size < w2.heap.size := by have := s2.out; omega
  have HA : Hid (El4 a) := ha
  have HB : Hid (El4 b) := hb
  clear r1 r2 b1 b2 b3 s1 s2 s3 hA hB ha hb
  go_wp2
  go_loopw [14, 8] (fun iv cv wx => ∃ (i o : Nat) (cur : List Nat), i ≤ 4 ∧ iv = .int .i64 (i : Int) ∧ cv = .int .u64 (o : Int) ∧ o < 18446744073709551616 ∧ Hid (El4 cur) ∧ Hid (wv cur + 18446744073709551616 ^ i * o = wv a + c * wv (b.take i)) ∧
    RowAt .u64 33 w.heap.size 4 (nI cur) wx ∧ RowAt .u64 33 w1.heap.size 4 (nI b) wx ∧ RowAt .u64 33 w2.heap.size 4 (nI z4) wx ∧ Below w.heap.size w wx) (fun iv _ _ => 4 - (intOf iv).toNat)
  case atStart => exact ⟨0, 0, a, by omega, rfl, rfl, by omega, HA, (by show _ = _; rw [Nat.mul_zero, List.take_zero]; rfl), hr1, hr2, r3, hbw⟩
  case round =>
    obtain ⟨i, o, cur, hi, rfl, rfl, ho, HC, HE, ra, rb, rz, hbx⟩ := hrel
    clear hr1 hr2 r3 hbw
    by_cases hlt : i < 4
    · have hd : decide ((i : Int) < 4) = true := decide_eq_true (by omega)
      have hiI : (i : Int) < 4 := by omega
      have hcb := rb.cell (j := i) (by rw [nI_length, HB.out.1]; exact hlt)
      have hca := ra.cell (j := i) (by rw [nI_length, HC.out.1]; exact hlt)
      have hfa := ra.free i
      rw [nI_get] at hcb hca
      have hy := HB.out.get i
      have hq := HC.out.get i
      have HS : Hid (∀ s o' : Nat, s < 18446744073709551616 → s + 18446744073709551616 * o' = cur.getD i 0 + c * b.getD i 0 + o → El4 (cur.set i s) ∧ o' < 18446744073709551616 ∧ wv (cur.set i s) + 18446744073709551616 ^ (i + 1) * o' = wv a + c * wv (b.take (i + 1))) := by
        intro s o' hs he
        exact ⟨HC.out.set i hs, at_bound _ _ _ _ _ _ hq hc hy ho he, at_step cur b i o o' s (wv a) c (by rw [HC.out.1]; exact hlt) (by rw [HB.out.1]; exact hlt) he HE.out⟩
      have HR : Hid (∀ s : Nat, RowAt .u64 33 w.heap.size 4 (nI (cur.set i s)) (wr.setCell ⟨w.heap.size, i, none⟩ (.int .u64 (s : Int)))) := fun s => by
        rw [← nI_set]
        exact ra.set i _
      have HRb : Hid (∀ u : Value, RowAt .u64 33 w1.heap.size 4 (nI b) (wr.setCell ⟨w.heap.size, i, none⟩ u) ∧ RowAt .u64 33 w2.heap.size 4 (nI z4) (wr.setCell ⟨w.heap.size, i, none⟩ u) ∧ Below w.heap.size w (wr.setCell ⟨w.heap.size, i, none⟩ u)) := fun u =>
        ⟨rb.other (p := ⟨w.heap.size, i, none⟩) (by show w.heap.size ≠ _; omega) u, rz.other (p := ⟨w.heap.size, i, none⟩) (by show w.heap.size ≠ _; omega) u, (Wrote.set w.heap.size i wr u).below _ _ (Nat.le_refl _) hbx⟩
      generalize b.getD i 0 = y at hcb hy HS
      generalize cur.getD i 0 = q at hca hq HS
      clear ra rb rz hbx HE
      go_wp2_with fail
      refine (mul64_any c y hc hy _).mono ?_
      rintro e w4 ⟨⟨hi', lo, rfl, hhi, hlo, hp⟩, rfl⟩
      obtain ⟨s1, c1, hs1, he1, run1⟩ := add64_run lo q
      obtain ⟨s2, c2, hs2, he2, run2⟩ := add64_run s1 o
      have hpb : c * y ≤ 18446744073709551615 * 18446744073709551615 := Nat.mul_le_mul (by omega) (by omega)
      obtain ⟨g1, hg1⟩ : ∃ n : Nat, n = hi' + c1 := ⟨_, rfl⟩
      obtain ⟨g2, hg2⟩ : ∃ n : Nat, n = g1 + c2 := ⟨_, rfl⟩
      obtain ⟨k1, k2, k3⟩ := HS.out s2 g2 hs2 (by omega)
      have a1 : IntKind.u64.wrap ((hi' : Int) + (c1 : Int)) = (g1 : Int) := wrapA _ _ _ hg1 (by omega)
      have a2 : IntKind.u64.wrap ((g1 : Int) + (c2 : Int)) = (g2 : Int) := wrapA _ _ _ hg2 (by omega)
      have K1 : Hid (El4 (cur.set i s2)) := k1
      have K3 : Hid _ := k3
      have hR := HR.out s2
      obtain ⟨hRb, hRz, hbn⟩ := HRb.out (.int .u64 (s2 : Int))
      clear k1 k3 HS HR HRb hg1 hg2 hpb hp he1 he2
      go_wp2_with (first | simp only [run1] | simp only [run2])
      go_roundw
      case rel => exact ⟨i + 1, g2, cur.set i s2, by omega, by go_num, rfl, k2, K1, K3, hR, hRb, hRz, hbn⟩
      case measure => simp [intOf] <;> omega
    · have hie : i = 4 := by omega
      have hd : decide ((i : Int) < 4) = false := decide_eq_false (by omega)
      have hiI : (4 : Int) ≤ (i : Int) := by omega
      have HE2 : Hid (wv cur + 115792089237316195423570985008687907853269984665640564039457584007913129639936 * o = wv a + c * wv b) := by
        have := HE.out
        rw [hie, List.take_of_length_le (by rw [HB.out.1]; exact Nat.le_refl _)] at this
        exact this
      clear HE hie
      go_wp2_with (first | refine wpList_load_row rfl 33 _ rfl rfl ra _ Try.underlying33 rfl (elInfo HC.out) ?_ | (refine wpList_store_row rfl 33 _ _ rfl (nI cur) rfl rfl rz (by rw [z4_el.len, HC.out.len]) (elInfo z4_el) ?_; intro w6 r6 hw6))
      refine bodyPost_row2 (p := 6) (q := 7) (ty := 33) rfl rfl rfl rfl r6 Try.underlying33 rfl (elInfo HC.out) ?_
      exact ⟨cur, o, rfl, HC.out, ho, HE2.out, hw6.below _ _ (by omega) hbx⟩
end Go.Proofs.Ythokfcmnijpkhab
