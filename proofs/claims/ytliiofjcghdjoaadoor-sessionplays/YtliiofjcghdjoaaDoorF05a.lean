/- What sums, differences and products of words answer, and a + w b in four words: contracts of package field, first part. -/
import Derived.Test.YtliiofjcghdjoaaDoorBase
import Derived.Test.YtliiofjcghdjoaaDoorChecked
import Derived.Laws.Externs
import Derived.Lib.Mul64
import Derived.OwnWalk
namespace Go.Proofs.YtliiofjcghdjoaaDoor
open Go.ChangeShapes Go.WideShapes Go.ChangeAt Go.RowKit
set_option linter.unusedSimpArgs false
set_option linter.unusedVariables false

/-! ### The machine's sums -/
/-- The model's entry for differences with a borrow. -/
def subEntry : Array Value → Sem Value := fun args => do
  let (x, y, b) ← Extern.MathBitsCarry.three "Sub64" args
  pure (Extern.MathBitsCarry.pair ((x + Extern.MathBitsCarry.m64 - y - b) % Extern.MathBitsCarry.m64) (if x < y + b then 1 else 0))
theorem run_subEntry {P : Program} (x y b : Nat) (hb : b ≤ 1) (w : World) :
    (subEntry #[.int .u64 x, .int .u64 y, .int .u64 b]).run P w = .ok (.tuple #[.int .u64 (((x + 18446744073709551616 - y - b) % 18446744073709551616 : Nat) : Int), .int .u64 ((if x < y + b then 1 else 0 : Nat) : Int)]) w := by
  have : b = 0 ∨ b = 1 := by omega
  rcases this with rfl | rfl <;> rfl

theorem add64_run (x y : Nat) : ∃ s c : Nat, s < 18446744073709551616 ∧ s + 18446744073709551616 * c = x + y ∧
    ∀ w : World, (callFunc 89 #[.int .u64 (x : Int), .int .u64 (y : Int), .int .u64 0]).run Tryd.prog w = .ok (.value (.tuple #[.int .u64 (s : Int), .int .u64 (c : Int)])) w := by
  refine ⟨(x + y) % 18446744073709551616, (x + y) / 18446744073709551616, Nat.mod_lt _ (by decide), Nat.mod_add_div _ _, fun w => ?_⟩
  rw [run_callFunc_extern Tryd.func89 (by kernel_rfl) (by kernel_rfl) (by kernel_rfl) (e := add64Entry) (by kernel_rfl), run_add64 _ _ 0 (by omega) (by omega) (by omega) (by omega)]
  simp only [Result.andThen]
  congr 5 <;> omega

theorem mask32 (x : Nat) (hx : x < 18446744073709551616) : bits .and .u64 (x : Int) 4294967295 = ((x % 4294967296 : Nat) : Int) := by
  have := u64_and_nat x 4294967295 hx (by decide)
  rw [show (4294967295 : Int) = ((4294967295 : Nat) : Int) from rfl, this, show (4294967295 : Nat) = 2 ^ 32 - 1 from rfl, Nat.and_two_pow_sub_one_eq_mod]

theorem mask63 (x : Nat) (hx : x < 18446744073709551616) : bits .and .u64 (x : Int) 9223372036854775807 = ((x % 9223372036854775808 : Nat) : Int) := by
  have := u64_and_nat x 9223372036854775807 hx (by decide)
  rw [show (9223372036854775807 : Int) = ((9223372036854775807 : Nat) : Int) from rfl, this, show (9223372036854775807 : Nat) = 2 ^ 63 - 1 from rfl, Nat.and_two_pow_sub_one_eq_mod]

theorem wrapN (n : Nat) (h : n < 18446744073709551616) : IntKind.u64.wrap (n : Int) = (n : Int) := by rw [IntKind.wrap_u64]; omega
theorem wrapM (a b n : Nat) (hn : n = a * b) (h : n < 18446744073709551616) : IntKind.u64.wrap ((a : Int) * (b : Int)) = (n : Int) := by
  rw [← Int.natCast_mul, ← hn]
  exact wrapN n h
theorem wrapA (a b n : Nat) (hn : n = a + b) (h : n < 18446744073709551616) : IntKind.u64.wrap ((a : Int) + (b : Int)) = (n : Int) := by
  rw [← Int.natCast_add, ← hn]
  exact wrapN n h

set_option maxHeartbeats 1000000 in
theorem mul64_any (x y : Nat) (hx : x < 18446744073709551616) (hy : y < 18446744073709551616) (w : World) :
    Calls Tryd.prog 92 #[.int .u64 (x : Int), .int .u64 (y : Int)] w fun e w' => (∃ hi lo : Nat, e = .returned (.tuple #[.int .u64 (hi : Int), .int .u64 (lo : Int)]) ∧ hi < 18446744073709551616 ∧ lo < 18446744073709551616 ∧ lo + 18446744073709551616 * hi = x * y) ∧ w' = w := by
  obtain ⟨h1, h2, h3, h4⟩ := Lib.mul64_hi x y hx hy
  have hlt : x * y / 18446744073709551616 < 18446744073709551616 := by
    have : x * y < 18446744073709551616 * 18446744073709551616 := Nat.mul_lt_mul'' hx hy
    omega
  obtain ⟨x0, hx0⟩ : ∃ n : Nat, n = x % 4294967296 := ⟨_, rfl⟩
  obtain ⟨x1, hx1⟩ : ∃ n : Nat, n = x / 4294967296 := ⟨_, rfl⟩
  obtain ⟨y0, hy0⟩ : ∃ n : Nat, n = y % 4294967296 := ⟨_, rfl⟩
  obtain ⟨y1, hy1⟩ : ∃ n : Nat, n = y / 4294967296 := ⟨_, rfl⟩
  rw [← hx0, ← hy0] at h1
  rw [← hx0, ← hy0, ← hx1] at h2
  rw [← hx0, ← hy0, ← hx1, ← hy1] at h3 h4
  obtain ⟨p, hp⟩ : ∃ n : Nat, n = x0 * y0 := ⟨_, rfl⟩
  obtain ⟨p1, hp1⟩ : ∃ n : Nat, n = p / 4294967296 := ⟨_, rfl⟩
  obtain ⟨q, hq⟩ : ∃ n : Nat, n = x1 * y0 := ⟨_, rfl⟩
  obtain ⟨t, ht⟩ : ∃ n : Nat, n = q + p1 := ⟨_, rfl⟩
  obtain ⟨t0, ht0⟩ : ∃ n : Nat, n = t % 4294967296 := ⟨_, rfl⟩
  obtain ⟨t1, ht1⟩ : ∃ n : Nat, n = t / 4294967296 := ⟨_, rfl⟩
  obtain ⟨r, hr⟩ : ∃ n : Nat, n = x0 * y1 := ⟨_, rfl⟩
  obtain ⟨u, hu⟩ : ∃ n : Nat, n = t0 + r := ⟨_, rfl⟩
  obtain ⟨u1, hu1⟩ : ∃ n : Nat, n = u / 4294967296 := ⟨_, rfl⟩
  obtain ⟨s, hs⟩ : ∃ n : Nat, n = x1 * y1 := ⟨_, rfl⟩
  obtain ⟨v, hv⟩ : ∃ n : Nat, n = s + t1 := ⟨_, rfl⟩
  obtain ⟨H, hH⟩ : ∃ n : Nat, n = v + u1 := ⟨_, rfl⟩
  obtain ⟨L, hL⟩ : ∃ n : Nat, n = x * y % 18446744073709551616 := ⟨_, rfl⟩
  rw [← hp] at h1
  rw [← hp, ← hq, ← hp1, ← ht] at h2
  rw [← hp, ← hq, ← hp1, ← ht, ← ht0, ← hr, ← hu] at h3
  rw [← hp, ← hq, ← hp1, ← ht, ← ht0, ← ht1, ← hr, ← hu, ← hu1, ← hs, ← hv, ← hH] at h4
  have e1 : bits .and .u64 (x : Int) 4294967295 = (x0 : Int) := by rw [mask32 x hx, hx0]
  have e2 : bits .and .u64 (y : Int) 4294967295 = (y0 : Int) := by rw [mask32 y hy, hy0]
  have e3 : (x : Int) / 4294967296 = (x1 : Int) := by omega
  have e4 : (y : Int) / 4294967296 = (y1 : Int) := by omega
  have e5 : IntKind.u64.wrap ((x0 : Int) * (y0 : Int)) = (p : Int) := wrapM _ _ _ hp h1
  have e6 : IntKind.u64.wrap ((x1 : Int) * (y0 : Int)) = (q : Int) := wrapM _ _ _ hq (by omega)
  have e7 : (p : Int) / 4294967296 = (p1 : Int) := by omega
  have e8 : IntKind.u64.wrap ((q : Int) + (p1 : Int)) = (t : Int) := wrapA _ _ _ ht h2
  have e9 : bits .and .u64 (t : Int) 4294967295 = (t0 : Int) := by rw [mask32 t h2, ht0]
  have e10 : (t : Int) / 4294967296 = (t1 : Int) := by omega
  have e11 : IntKind.u64.wrap ((x0 : Int) * (y1 : Int)) = (r : Int) := wrapM _ _ _ hr (by omega)
  have e12 : IntKind.u64.wrap ((t0 : Int) + (r : Int)) = (u : Int) := wrapA _ _ _ hu h3
  have e13 : IntKind.u64.wrap ((x1 : Int) * (y1 : Int)) = (s : Int) := wrapM _ _ _ hs (by omega)
  have e14 : IntKind.u64.wrap ((s : Int) + (t1 : Int)) = (v : Int) := wrapA _ _ _ hv (by omega)
  have e15 : (u : Int) / 4294967296 = (u1 : Int) := by omega
  have e16 : IntKind.u64.wrap ((v : Int) + (u1 : Int)) = (H : Int) := wrapA _ _ _ hH (by omega)
  have e17 : IntKind.u64.wrap ((x : Int) * (y : Int)) = (L : Int) := by rw [← Int.natCast_mul, IntKind.wrap_u64]; omega
  have HF : Hid (H < 18446744073709551616 ∧ L < 18446744073709551616 ∧ L + 18446744073709551616 * H = x * y) := ⟨by omega, by omega, by omega⟩
  clear hx hy hlt hx0 hx1 hy0 hy1 h1 h2 h3 h4 hp hp1 hq ht ht0 ht1 hr hu hu1 hs hv hH hL
  go_enter Tryd.func92, Tryd.ntmps92
  go_wp2
  go_ret2
  exact ⟨⟨H, L, rfl, HF.out.1, HF.out.2.1, HF.out.2.2⟩, rfl⟩

theorem cellK {w W : World} {p : Addr} {v : Value} (h : w.cell? p = some v) (hb : Below w.heap.size w W) : W.cell? p = some v := by
  rw [hb.cell (World.block_lt_of_cell? _ _ h)]
  exact h

/-! ### Two results, one or both of them in a block -/
theorem bodyPost_row2 {k : IntKind} {e : TypeId} {g cap : Nat} {l : List Int} {P : Program} {fn : Func} {p q : Tmp} {ty : TypeId} {d : TypeDesc} {v : Value} {R : Ending → World → Prop} {a : Act} {w : World} (h : fn.results = #[.cell p ty, .tmp q]) (hd : a.defers = [])
    (hp : a.tmps.getD p undef = .pointer (some ⟨g, 0, none⟩)) (hq : a.tmps.getD q undef = v) (hr : RowAt k e g cap l w) (hu : P.underlying ty = some d) (hrow : d.isRow = true) (hi : (P.info? ty).map (·.size) = some l.length)
    (hR : R (.returned (.tuple #[.agg (l.map (Value.int k)).toArray, v])) w) : bodyPost P fn R .ret a w := by
  refine bodyPost_ret ?_ hd hR
  have hp' : a.tmps[p]?.getD undef = .pointer (some ⟨g, 0, none⟩) := by simpa using hp
  have hq' : a.tmps[q]?.getD undef = v := by simpa using hq
  have hl := hr.load (P := P) hu hrow hi
  simp [results, h, hp', hq', asAddr, hl]
theorem bodyPost_rows {k : IntKind} {e : TypeId} {g g2 cap cap2 : Nat} {l l2 : List Int} {P : Program} {fn : Func} {p q : Tmp} {ty : TypeId} {d : TypeDesc} {R : Ending → World → Prop} {a : Act} {w : World} (h : fn.results = #[.cell p ty, .cell q ty]) (hd : a.defers = [])
    (hp : a.tmps.getD p undef = .pointer (some ⟨g, 0, none⟩)) (hq : a.tmps.getD q undef = .pointer (some ⟨g2, 0, none⟩)) (hr : RowAt k e g cap l w) (hr2 : RowAt k e g2 cap2 l2 w) (hu : P.underlying ty = some d) (hrow : d.isRow = true) (hi : (P.info? ty).map (·.size) = some l.length) (hi2 : (P.info? ty).map (·.size) = some l2.length)
    (hR : R (.returned (.tuple #[.agg (l.map (Value.int k)).toArray, .agg (l2.map (Value.int k)).toArray])) w) : bodyPost P fn R .ret a w := by
  refine bodyPost_ret ?_ hd hR
  have hp' : a.tmps[p]?.getD undef = .pointer (some ⟨g, 0, none⟩) := by simpa using hp
  have hq' : a.tmps[q]?.getD undef = .pointer (some ⟨g2, 0, none⟩) := by simpa using hq
  have hl := hr.load (P := P) hu hrow hi
  have hl2 := hr2.load (P := P) hu hrow hi2
  simp [results, h, hp', hq', asAddr, hl, hl2]

end Go.Proofs.YtliiofjcghdjoaaDoor
