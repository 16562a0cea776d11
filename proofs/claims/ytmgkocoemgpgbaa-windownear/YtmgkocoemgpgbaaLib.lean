/- Rows of bytes in memory as lists of bytes, and plain arithmetic on them: what a slice reads as, how that lasts, and the numbers that bytes stand for. No program's text is named. -/
import Derived.WalkKit
import Derived.ProofKit
import Derived.OpenShut
import Derived.Below
import Derived.Handy
import Derived.Laws.BytesArg
import Derived.Laws.AppendOwnNone
namespace Go.Proofs.Ytmgkocoemgpgbaa
set_option linter.unusedSimpArgs false
set_option linter.unusedVariables false
open Go.ChangeShapes Go.WideShapes Go.ChangeAt Go.RowKit

/-- A byte as a cell holds it. -/
def bv (x : UInt8) : Value := .int .u8 (x.toNat : Int)

/-- The slice v reads as the bytes l. -/
def Rd (w : World) (v : Value) (l : List UInt8) : Prop :=
  ∃ a cap, v = .slice a l.length cap ∧ l.length ≤ cap ∧ cap ≤ maxLen ∧ (a = none → cap = 0) ∧
    (l = [] ∨ ∃ b off, a = some ⟨b, off, none⟩ ∧ ∀ i, i < l.length → w.cell? ⟨b, off + i, none⟩ = some (.int .u8 ((l.getD i 0).toNat : Int)))

theorem Rd.kept {w w' : World} {v : Value} {l : List UInt8} (h : Rd w v l) (hb : Below w.heap.size w w') : Rd w' v l := by
  obtain ⟨a, cap, h1, h2, h3, h4, h5⟩ := h
  refine ⟨a, cap, h1, h2, h3, h4, h5.imp id ?_⟩
  rintro ⟨b, off, e, hc⟩
  refine ⟨b, off, e, fun i hi => ?_⟩
  have := hc i hi
  rw [hb.cell (p := ⟨b, off + i, none⟩) (World.block_lt_of_cell? w _ this)]
  exact this

theorem Rd.drew {w : World} {v : Value} {l : List UInt8} (h : Rd w v l) : Rd w.drew v l := h.kept (Below.refl _ _).drew

theorem Rd.of_row {w : World} {base : Nat} {e : TypeId} {v : Value} {l : List UInt8} (h : w.ownsRow base e 1 v l.length (l.map bv)) : Rd w v l := by
  rcases h.2 with ⟨rfl, h0⟩ | ⟨g, cap, cur, rfl, hb, hg, hn, hm, hs, ht⟩
  · have : l = [] := List.eq_nil_of_length_eq_zero h0
    subst this
    exact ⟨none, 0, rfl, by simp, by simp, fun _ => rfl, .inl rfl⟩
  · refine ⟨_, cap, rfl, hn, hm, (fun h => by cases h), .inr ⟨g, 0, rfl, fun i hi => ?_⟩⟩
    have := h.cellAt i (by simpa using hi)
    simp [bv, hi] at this
    simp [this, hi]

theorem Rd.nil (w : World) : Rd w (.slice none 0 0) [] := ⟨none, 0, rfl, by simp, by simp, fun _ => rfl, .inl rfl⟩

theorem Rd.len {w : World} {v : Value} {l : List UInt8} (h : Rd w v l) : l.length ≤ 9223372036854775807 := by
  obtain ⟨a, cap, h1, h2, h3, h4, h5⟩ := h
  unfold maxLen at h3
  omega

theorem run_loadCells_zero {P : Program} (w : World) (a : Addr) : (loadCells a 0).run P w = .ok #[] w := by
  have := run_loadCells_list (P := P) w a [] (fun j v hj => by simp at hj)
  simpa using this

theorem Rd.conv {w : World} {v : Value} {l : List UInt8} (h : Rd w v l) {P : Program} {src dst e : TypeId}
    (hs : P.underlying src = some (.slice e)) (he : P.underlying e = some (.int .u8)) (hd : P.underlying dst = some .string) :
    (convert src dst v).run P w = .ok (.string ⟨l.toArray⟩) w := by
  obtain ⟨a, cap, rfl, h2, h3, h4, h5⟩ := h
  rcases h5 with rfl | ⟨b, off, rfl, hc⟩
  · cases a with
    | none => exact run_convert_bytes_nil w src e hs he _ _ dst hd
    | some a =>
      rw [run_convert_bytes_string w src dst e _ _ _ hs he hd]
      have := run_bytesToString (P := P) w a 0 cap [] (by simpa using run_loadCells_zero (P := P) w a)
      exact this
  · rw [run_convert_bytes_string w src dst e _ _ _ hs he hd]
    have hl : (loadCells ⟨b, off, none⟩ l.length).run P w = .ok ((l.map fun x => ((x.toNat : Nat) : Int)).map (Value.int .u8)).toArray w := by
      have := run_loadCells_list (P := P) w ⟨b, off, none⟩ (l.map bv) (fun j v hj => by
        have hjl : j < l.length := by
          rcases Nat.lt_or_ge j l.length with h | h
          · exact h
          · simp [List.getElem?_eq_none h] at hj
        have hplain : (⟨b, off, none⟩ : Addr).add j = ⟨b, off + j, none⟩ := by unfold Addr.add; split <;> simp_all
        rw [hplain, hc j hjl]
        simp [List.getElem?_eq_getElem hjl] at hj
        subst hj
        simp [bv, hjl])
      rw [List.map_map]
      rw [List.length_map] at this
      exact this
    rw [run_bytesToString w _ _ cap _ hl]
    congr 2
    have key : ∀ (l : List UInt8) (s : ByteArray), (l.map fun x => ((x.toNat : Nat) : Int)).foldl (fun r n => r.push (UInt8.ofNat n.toNat)) s = ⟨s.data ++ l.toArray⟩ := by
      intro l
      induction l with
      | nil => intro s; simp
      | cons x xs ih =>
        intro s
        simp only [List.map_cons, List.foldl_cons]
        rw [ih]
        simp [ByteArray.push]
    rw [key]
    show (⟨#[] ++ l.toArray⟩ : ByteArray) = ⟨l.toArray⟩
    simp

/-! ### Numbers of bytes -/
/-- The number of bytes, the lowest first. -/
def leN : List UInt8 → Nat
  | [] => 0
  | x :: xs => x.toNat + 256 * leN xs

theorem leN_lt : ∀ l : List UInt8, leN l < 256 ^ l.length
  | [] => by simp [leN]
  | x :: xs => by
    have := leN_lt xs
    have hx := x.toNat_lt
    simp only [leN, List.length_cons, Nat.pow_succ]
    omega

theorem leN_snoc : ∀ (l : List UInt8) (x : UInt8), leN (l ++ [x]) = leN l + 256 ^ l.length * x.toNat
  | [], x => by simp [leN]
  | y :: ys, x => by
    simp only [List.cons_append, leN, leN_snoc ys x, List.length_cons, Nat.pow_succ, Nat.mul_add]
    rw [show 256 * (256 ^ ys.length * x.toNat) = 256 ^ ys.length * 256 * x.toNat from by rw [Nat.mul_comm (256 ^ ys.length) 256, Nat.mul_assoc]]
    omega

theorem leN_take_succ (l : List UInt8) (k : Nat) (h : k < l.length) : leN (l.take (k + 1)) = leN (l.take k) + 256 ^ k * (l.getD k 0).toNat := by
  rw [List.take_succ_eq_append_getElem h, leN_snoc]
  simp [h, Nat.min_eq_left (Nat.le_of_lt h)]

theorem leN_drop (l : List UInt8) (k : Nat) (h : k < l.length) : leN (l.drop k) = (l.getD k 0).toNat + 256 * leN (l.drop (k + 1)) := by
  rw [List.drop_eq_getElem_cons h]
  simp [leN, h]

theorem leN_take_lt (l : List UInt8) (k : Nat) (hk : k ≤ 8) : leN (l.take k) < 18446744073709551616 := by
  have h1 := leN_lt (l.take k)
  have h2 : (l.take k).length ≤ 8 := by simp; omega
  have h3 := Nat.pow_le_pow_right (show 0 < 256 by decide) h2
  have h4 : 256 ^ 8 = 18446744073709551616 := by decide
  omega

/-- One byte more, laid above those that are there. -/
theorem load_step (l : List UInt8) (k : Nat) (h : k < l.length) (hk : k < 8) :
    bits .or .u64 ((leN (l.take k) : Nat) : Int) (IntKind.u64.wrap (IntKind.u64.wrap (((l.getD k 0).toNat : Nat) : Int) * 2 ^ (8 * k))) = ((leN (l.take (k + 1)) : Nat) : Int) := by
  have hb := (l.getD k 0).toNat_lt
  have e0 : IntKind.u64.wrap (((l.getD k 0).toNat : Nat) : Int) = ((l.getD k 0).toNat : Nat) := by rw [IntKind.wrap_u64]; omega
  have hp : (2 : Nat) ^ (8 * k) = 256 ^ k := by rw [Nat.pow_mul]
  have hs : (l.getD k 0).toNat * 2 ^ (8 * k) < 18446744073709551616 := by
    have h1 : (l.getD k 0).toNat * 2 ^ (8 * k) < 256 * 256 ^ k := by
      rw [hp]; exact Nat.mul_lt_mul_of_lt_of_le hb (Nat.le_refl _) (Nat.pow_pos (by decide))
    have h2 : 256 * 256 ^ k = 256 ^ (k + 1) := by rw [Nat.pow_succ, Nat.mul_comm]
    have h3 := Nat.pow_le_pow_right (show 0 < 256 by decide) (show k + 1 ≤ 8 by omega)
    have h4 : 256 ^ 8 = 18446744073709551616 := by decide
    omega
  have e1 : IntKind.u64.wrap (((l.getD k 0).toNat : Int) * 2 ^ (8 * k)) = (((l.getD k 0).toNat * 2 ^ (8 * k) : Nat) : Int) := by
    rw [IntKind.wrap_u64, show ((l.getD k 0).toNat : Int) * 2 ^ (8 * k) = (((l.getD k 0).toNat * 2 ^ (8 * k) : Nat) : Int) from by simp]
    omega
  have hlow := leN_lt (l.take k)
  have hlen : (l.take k).length = k := by simp; omega
  rw [hlen] at hlow
  have h5 := leN_take_lt l k (by omega)
  rw [e0, e1, u64_or_nat _ _ h5 hs, Nat.or_comm, nat_join (8 * k) _ _ (by simp) (by rw [hp]; exact hlow), leN_take_succ l k h, hp]
  congr 1
  rw [Nat.mul_comm (256 ^ k)]
  omega

theorem getD_take8 (l : List UInt8) (j : Nat) (h8 : j < 8) : (l.take 8).getD j 0 = l.getD j 0 := by
  simp [h8]

/-- One byte more ahead of those that are there. -/
theorem refload_step (l : List UInt8) (j : Nat) (h : j < l.length) (h8 : j < 8) :
    IntKind.u64.wrap (IntKind.u64.wrap (((leN ((l.take 8).drop (j + 1)) : Nat) : Int) * 256) + IntKind.u64.wrap (((l.getD j 0).toNat : Nat) : Int)) = ((leN ((l.take 8).drop j) : Nat) : Int) := by
  have e := leN_drop (l.take 8) j (by simp; omega)
  rw [getD_take8 l j h8] at e
  have b := leN_lt ((l.take 8).drop j)
  have hl : ((l.take 8).drop j).length ≤ 8 := by simp; omega
  have h3 := Nat.pow_le_pow_right (show 0 < 256 by decide) hl
  have h4 : 256 ^ 8 = 18446744073709551616 := by decide
  simp only [IntKind.wrap_u64]
  omega

/-! ### A row that is filled place by place -/
def rowV (f : Nat → UInt8) (n k : Nat) : List Value := (List.range n).map fun i => bv (if i < k then f i else 0)
theorem rowV_zero (f : Nat → UInt8) (n : Nat) : rowV f n 0 = List.replicate n (.int .u8 0) := by
  simp [rowV, bv, List.map_const']
theorem Rd.kept2 {w wr : World} {v : Value} {l : List UInt8} (h : Hid (Rd w v l)) (hb : Below w.heap.size w wr) : Rd wr v l := h.out.kept hb
theorem rowV_full (f : Nat → UInt8) (n : Nat) : rowV f n n = ((List.range n).map f).map bv := by
  simp only [rowV, List.map_map]
  exact List.map_congr_left fun i hi => by simp [List.mem_range.1 hi]
theorem rowV_set (f : Nat → UInt8) (n k : Nat) : (rowV f n k).set k (bv (f k)) = rowV f n (k + 1) := by
  refine List.ext_getElem (by simp [rowV]) fun i h1 h2 => ?_
  simp only [rowV, List.getElem_set, List.getElem_map, List.getElem_range]
  by_cases e : k = i
  · subst e; simp
  · have : (i < k + 1) ↔ i < k := by omega
    simp [e, this]
theorem rowV_length (f : Nat → UInt8) (n k : Nat) : (rowV f n k).length = n := by simp [rowV]
theorem rowV_get (f : Nat → UInt8) (n k j : Nat) (h : j < n) : (rowV f n k)[j]? = some (bv (if j < k then f j else 0)) := by
  simp [rowV, h]
theorem rowV_made (f : Nat → UInt8) (n : Nat) : (madeCells #[.int .u8 0] n).toList = rowV f n 0 := by
  rw [rowV_zero]
  exact toList_madeCells_one _ _

/-- What a loop that fills a row knows: the row is the call's own, the first k places are filled; nothing that was there has turned. -/
def Fill (e : TypeId) (w : World) (B n : Nat) (f : Nat → UInt8) (k : Nat) (wr : World) : Prop :=
  wr.ownsRow w.heap.size e 1 (.slice (some ⟨B, 0, none⟩) n n) n (rowV f n k) ∧ Below w.heap.size w wr

theorem Fill.start {e : TypeId} {w w1 : World} {n : Nat} (f : Nat → UInt8) (hown : w1.ownsRow w.heap.size e 1 (.slice (some ⟨w.heap.size, 0, none⟩) n n) n (madeCells #[.int .u8 0] n).toList) (hgr : w.grownBy w1 none) :
    Fill e w w.heap.size n f 0 w1 := by
  rw [rowV_made f] at hown
  exact ⟨hown, (Below.refl _ _).grown hgr (Nat.le_refl _) (by simp)⟩
theorem Fill.cell {e : TypeId} {w : World} {B n : Nat} {f : Nat → UInt8} {k : Nat} {wr : World} (h : Fill e w B n f k wr) (hk : k < n) :
    wr.cell? ⟨B, k, none⟩ = some (.int .u8 0) ∧ wr.frozen? ⟨B, k, none⟩ = false := by
  refine ⟨?_, h.1.frozenAt k⟩
  rw [h.1.cellAt k (by simpa using hk), rowV_get _ _ _ _ hk]
  simp [bv]
theorem Fill.ge {e : TypeId} {w : World} {B n : Nat} {f : Nat → UInt8} {k : Nat} {wr : World} (h : Fill e w B n f k wr) : w.heap.size ≤ B := (h.1.lt B rfl).1
theorem Fill.step {e : TypeId} {w : World} {B n : Nat} {f : Nat → UInt8} {k : Nat} {wr : World} (h : Fill e w B n f k wr) {x : Int} (hx : x = ((f k).toNat : Int)) :
    Fill e w B n f (k + 1) (wr.setCell ⟨B, k, none⟩ (.int .u8 x)) := by
  subst hx
  have := h.1.stored k (bv (f k))
  rw [rowV_set] at this
  exact ⟨this.1, h.2.setCell h.ge _⟩
theorem Fill.drew {e : TypeId} {w : World} {B n : Nat} {f : Nat → UInt8} {k : Nat} {wr : World} (h : Fill e w B n f k wr) : Fill e w B n f k wr.drew := ⟨h.1.drew, h.2.drew⟩
theorem Fill.undrew {e : TypeId} {w : World} {B n : Nat} {f : Nat → UInt8} {k : Nat} {wr : World} (h : Fill e w B n f k wr.drew) : Fill e w B n f k wr := ⟨h.1, ⟨h.2.os, h.2.tape, h.2.output, h.2.size, h.2.block⟩⟩

/-- What a call that makes a new row of bytes says of it. -/
def New (e : TypeId) (w : World) (v : Value) (l : List UInt8) (w' : World) : Prop :=
  w'.ownsRow w.heap.size e 1 v l.length (l.map bv) ∧ Below w.heap.size w w'
theorem New.rd {e : TypeId} {w w' : World} {v : Value} {l : List UInt8} (h : New e w v l w') : Rd w' v l := Rd.of_row h.1
theorem Fill.done {e : TypeId} {w : World} {B n : Nat} {f : Nat → UInt8} {wr : World} (h : Fill e w B n f n wr) : New e w (.slice (some ⟨B, 0, none⟩) n n) ((List.range n).map f) wr := by
  refine ⟨?_, h.2⟩
  have := h.1
  rw [rowV_full] at this
  simpa using this

/-- Byte number i of a number. -/
def stB (x i : Nat) : UInt8 := UInt8.ofNat (x / 256 ^ i)

theorem stB_shr (x j : Nat) : (x : Int) / 2 ^ (8 * j) % 256 = ((stB x j).toNat : Int) := by
  have hp : (2 : Nat) ^ (8 * j) = 256 ^ j := by rw [Nat.pow_mul]
  simp only [stB, UInt8.toNat_ofNat', ← hp]
  simp
theorem stB_mod (x j : Nat) : ((x / 256 ^ j : Nat) : Int) % 256 = ((stB x j).toNat : Int) := by
  simp only [stB, UInt8.toNat_ofNat']
  omega
theorem div_succ (x j : Nat) : x / 256 ^ j / 256 = x / 256 ^ (j + 1) := by rw [Nat.div_div_eq_div_mul, Nat.pow_succ]

theorem New.start {e : TypeId} (w : World) : New e w (.slice none 0 0) [] w := ⟨World.ownsRow_nil _ _ _ _, Below.refl _ _⟩
theorem New.alloc {e : TypeId} {w wr : World} {v : Value} {l : List UInt8} (h : New e w v l wr) (o : Obj) : New e w v l (wr.alloc o) := ⟨h.1.alloc o, h.2.alloc h.2.size o⟩
theorem New.drew {e : TypeId} {w wr : World} {v : Value} {l : List UInt8} (h : New e w v l wr) : New e w v l wr.drew := ⟨h.1.drew, h.2.drew⟩
theorem New.append {e : TypeId} {w wr w2 : World} {v v' : Value} {l l2 : List UInt8} {m : Nat} {news : List Value} (h : New e w v l wr) (hown : w2.ownsRow w.heap.size e 1 v' (l.length + m) (l.map bv ++ news))
    (hg : wr.grownBy w2 v.ownBlock) (hn : news = l2.map bv) (hm : m = l2.length) : New e w v' (l ++ l2) w2 := by
  subst hn hm
  refine ⟨by simpa using hown, h.2.grown hg h.2.size fun k hk => (h.1.lt k hk).1⟩
theorem cells_one {w : World} {b : Nat} {x : Value} (h : w.cell? ⟨b, 0, none⟩ = some x) : ∀ j u, [x][j]? = some u → w.cell? ((⟨b, 0, none⟩ : Addr).add j) = some u := by
  intro j u hj
  cases j with
  | zero => simp at hj; subst hj; simpa [Addr.add] using h
  | succ j => simp at hj

theorem bv_oneCell (l : List UInt8) : ∀ u ∈ l.map bv, u.oneCell' = true := by
  intro u hu
  obtain ⟨x, _, rfl⟩ := List.mem_map.1 hu
  rfl

/-- Appending to the call's own row whatever reads as bytes. -/
theorem wp_append_new {P : Program} {w wr : World} {o : Oper} {a : Act} {K : Act → World → Prop} {Q : Exit → Act → World → Prop} (s x : Operand) (t : TypeId)
    (ho : o.op = .call { callee := .builtin .append, args := #[s, x], argTypes := #[t, t] }) (e : TypeId) (ht : P.underlying t = some (.slice e))
    (hinfo : (P.info? e).map (fun i => (i.zero, i.size, i.bytes)) = some (some (.int .u8 0), 1, 1)) (v : Value) (l : List UInt8) (hs : a.eval s = v) (hN : New e w v l wr)
    (vx : Value) (l2 : List UInt8) (hx : a.eval x = vx) (hR : Rd wr vx l2) (hlen : l.length + l2.length ≤ 140737488355328)
    (h : ∀ v' w', New e w v' (l ++ l2) w' → wr.grownBy w' v.ownBlock → K (a.put o.dst v') w') : o.wp P a wr K Q := by
  obtain ⟨i, hi, hz0, hz1, hz2⟩ := info_parts hinfo
  obtain ⟨ax, cap, rfl, h2, h3, h4, h5⟩ := hR
  cases ax with
  | none =>
    have h0 := h4 rfl
    subst h0
    have hl2 : l2 = [] := List.eq_nil_of_length_eq_zero (by omega)
    subst hl2
    have hrun := run_append_owned_none (P := P) (w := wr) w.heap.size t o.type e i 1 ht hi v l.length _ hN.1
    have hx' : a.eval x = .slice none 0 0 := hx
    unfold Oper.wp
    simp [execOp, ho, resolve, invoke, builtin, hs, hx', hrun, Result.andThen]
    exact h v wr (by simpa using hN) (World.grownBy.refl _ _)
  | some ad =>
    refine wp_append_own wr s x t ho w.heap.size e i _ 1 1 ht hi hz0 hz1 hz2 rfl (by decide) v _ _ hs hN.1 ad l2.length cap (l2.map bv) hx (by simp) ?_ (bv_oneCell l2) (by unfold maxLen; omega) (by omega) hN.2.size ?_
    · intro j u hj
      have hjl : j < l2.length := by
        rcases Nat.lt_or_ge j l2.length with h | h
        · exact h
        · simp [List.getElem?_eq_none h] at hj
      rcases h5 with rfl | ⟨b, off, e1, hc⟩
      · simp at hjl
      · simp only [Option.some.injEq] at e1
        subst e1
        have hplain : (⟨b, off, none⟩ : Addr).add j = ⟨b, off + j, none⟩ := by unfold Addr.add; split <;> simp_all
        rw [hplain, hc j hjl]
        simp [List.getElem?_eq_getElem hjl] at hj
        subst hj
        simp [bv, hjl]
    · intro v' w' r1 r2 _
      exact h v' w' (hN.append r1 r2 rfl rfl) r2

theorem wpList_append_new {P : Program} {w wr : World} {ops : Array Oper} {rest : List Oper} {o : Oper} {a : Act} {Q : Exit → Act → World → Prop} (hg : o.guard = none) (s x : Operand) (t : TypeId)
    (ho : o.op = .call { callee := .builtin .append, args := #[s, x], argTypes := #[t, t] }) (e : TypeId) (ht : P.underlying t = some (.slice e))
    (hinfo : (P.info? e).map (fun i => (i.zero, i.size, i.bytes)) = some (some (.int .u8 0), 1, 1)) (v : Value) (l : List UInt8) (hs : a.eval s = v) (hN : New e w v l wr)
    (vx : Value) (l2 : List UInt8) (hx : a.eval x = vx) (hR : Rd wr vx l2) (hlen : l.length + l2.length ≤ 140737488355328)
    (h : ∀ v' w', New e w v' (l ++ l2) w' → wr.grownBy w' v.ownBlock → wpList P ops Q rest (a.put o.dst v') w') : wpList P ops Q (o :: rest) a wr :=
  wpList_plain hg fun _ hK => wp_append_new s x t ho e ht hinfo v l hs hN vx l2 hx hR hlen fun v' w' h1 h2 => hK _ _ (h v' w' h1 h2)

theorem step_append_new {P : Program} {w wr : World} {ops : Array Oper} {o : Oper} {a : Act} {K : Act → World → Prop} {Q : Exit → Act → World → Prop} (hg : o.guard = none) (s x : Operand) (t : TypeId)
    (ho : o.op = .call { callee := .builtin .append, args := #[s, x], argTypes := #[t, t] }) (e : TypeId) (ht : P.underlying t = some (.slice e))
    (hinfo : (P.info? e).map (fun i => (i.zero, i.size, i.bytes)) = some (some (.int .u8 0), 1, 1)) (v : Value) (l : List UInt8) (hs : a.eval s = v) (hN : New e w v l wr)
    (vx : Value) (l2 : List UInt8) (hx : a.eval x = vx) (hR : Rd wr vx l2) (hlen : l.length + l2.length ≤ 140737488355328)
    (h : ∀ v' w', New e w v' (l ++ l2) w' → wr.grownBy w' v.ownBlock → K (a.put o.dst v') w') :
    if Region.wanted o (yielded ops a.tmps) = true then Oper.wp P o a wr K Q else K (a.put o.dst undef) wr := by
  rw [if_pos (by simp [Region.wanted, hg])]
  exact wp_append_new s x t ho e ht hinfo v l hs hN vx l2 hx hR hlen h

/-- A literal of one byte. -/
theorem Rd.lit1 {w : World} {e : TypeId} {x : Int} (b : UInt8) (hx : x = (b.toNat : Int)) : Rd (w.alloc (.cells #[.int .u8 x] e)) (.slice (some ⟨w.heap.size, 0, none⟩) 1 1) [b] := by
  subst hx
  exact Rd.of_row (base := w.heap.size) (World.ownsRow_lit w #[bv b] 1 (Nat.le_refl _) (by simp [maxLen]) (by simp))
theorem Rd.lit {w : World} {e : TypeId} (l : List UInt8) (hm : l.length ≤ maxLen) : Rd (w.alloc (.cells (l.map bv).toArray e)) (.slice (some ⟨w.heap.size, 0, none⟩) l.length l.length) l :=
  Rd.of_row (base := w.heap.size) (World.ownsRow_lit w (l.map bv).toArray l.length (Nat.le_refl _) hm (by simp))

/-- The cell of place i of what reads as l. -/
theorem Rd.cellAt {w : World} {v : Value} {l : List UInt8} (h : Rd w v l) {i : Nat} (hi : i < l.length) :
    ∃ b off cap, v = .slice (some ⟨b, off, none⟩) l.length cap ∧ l.length ≤ cap ∧ w.cell? ⟨b, off + i, none⟩ = some (.int .u8 ((l.getD i 0).toNat : Int)) ∧ b < w.heap.size := by
  obtain ⟨a, cap, rfl, h2, h3, h4, h5⟩ := h
  rcases h5 with rfl | ⟨b, off, rfl, hc⟩
  · simp at hi
  · exact ⟨b, off, cap, rfl, h2, hc i hi, World.block_lt_of_cell? w _ (hc i hi)⟩

theorem byte_xor (x y : UInt8) : bits .xor .u8 (x.toNat : Int) (y.toNat : Int) = ((x ^^^ y).toNat : Int) := by
  rw [u8_xor_nat _ _ x.toNat_lt y.toNat_lt, UInt8.toNat_xor]
theorem byte_or (x y : UInt8) : bits .or .u8 (x.toNat : Int) (y.toNat : Int) = ((x ||| y).toNat : Int) := by
  rw [u8_or_nat _ _ x.toNat_lt y.toNat_lt, UInt8.toNat_or]
theorem byte_and (x y : UInt8) : bits .and .u8 (x.toNat : Int) (y.toNat : Int) = ((x &&& y).toNat : Int) := by
  rw [u8_and_nat _ _ x.toNat_lt y.toNat_lt, UInt8.toNat_and]
theorem wrapb_i64 (x : UInt8) : IntKind.i64.wrap (x.toNat : Int) = (x.toNat : Int) := by
  have := x.toNat_lt
  exact IntWalk.i64_in _ (by omega)
theorem wrapb_u8 (x : UInt8) : IntKind.u8.wrap (x.toNat : Int) = (x.toNat : Int) := by
  have := x.toNat_lt
  rw [IntKind.wrap_u8']; omega
theorem wrapb_u64 (x : UInt8) : IntKind.u64.wrap (x.toNat : Int) = (x.toNat : Int) := by
  have := x.toNat_lt
  rw [IntKind.wrap_u64]; omega
theorem byte_range (x : UInt8) : (0 : Int) ≤ (x.toNat : Int) ∧ (x.toNat : Int) < 256 := by have := x.toNat_lt; omega

/-- Two rows laid over one another. -/
def xorL (a b : List UInt8) : List UInt8 := (List.range (min a.length b.length)).map fun i => a.getD i 0 ^^^ b.getD i 0
theorem xorL_eq (a b : List UInt8) : xorL a b = List.zipWith (· ^^^ ·) a b := by
  refine List.ext_getElem (by simp [xorL]) fun i h1 h2 => ?_
  have h3 : i < min a.length b.length := by simpa [xorL] using h1
  simp [xorL, show i < a.length by omega, show i < b.length by omega]

/-! ### Bits one by one -/
theorem xor_bit (x y i : Nat) : (x ^^^ y) / 2 ^ i % 2 = if x / 2 ^ i % 2 = y / 2 ^ i % 2 then 0 else 1 := by
  have e := Nat.testBit_xor x y i
  simp only [Nat.testBit_eq_decide_div_mod_eq] at e
  have h1 := Nat.mod_two_eq_zero_or_one (x / 2 ^ i)
  have h2 := Nat.mod_two_eq_zero_or_one (y / 2 ^ i)
  have h3 := Nat.mod_two_eq_zero_or_one ((x ^^^ y) / 2 ^ i)
  rcases h1 with h1 | h1 <;> rcases h2 with h2 | h2 <;> rcases h3 with h3 | h3 <;> simp [h1, h2, h3] at e ⊢
theorem xor_mod_succ (x y i : Nat) : (x ^^^ y) % 2 ^ (i + 1) = (x ^^^ y) % 2 ^ i + (if x / 2 ^ i % 2 = y / 2 ^ i % 2 then 0 else 2 ^ i) := by
  rw [Nat.mod_pow_succ, xor_bit]
  split <;> simp
theorem pow2_succ (i : Nat) : 2 ^ i * 2 = 2 ^ (i + 1) := by rw [Nat.pow_succ]
theorem div2_succ (x i : Nat) : x / 2 ^ i / 2 = x / 2 ^ (i + 1) := by rw [Nat.div_div_eq_div_mul, Nat.pow_succ]
theorem pow2_le (i : Nat) (h : i ≤ 8) : 2 ^ i ≤ 256 := by
  have := Nat.pow_le_pow_right (show 0 < 2 by decide) h
  simpa using this

/-- All bytes, or-ed together. -/
def orL (l : List UInt8) : UInt8 := l.foldl (· ||| ·) 0
theorem orL_snoc (l : List UInt8) (x : UInt8) : orL (l ++ [x]) = orL l ||| x := by simp [orL]
theorem orL_take_succ (l : List UInt8) (k : Nat) (h : k < l.length) : orL (l.take (k + 1)) = orL (l.take k) ||| l.getD k 0 := by
  rw [List.take_succ_eq_append_getElem h, orL_snoc]; simp [h]
theorem u8_or_zero (x y : UInt8) : x ||| y = 0 ↔ x = 0 ∧ y = 0 := by
  constructor
  · intro h
    have h' : (x ||| y).toNat = 0 := by rw [h]; rfl
    rw [UInt8.toNat_or, Nat.or_eq_zero_iff] at h'
    exact ⟨UInt8.toNat_inj.1 h'.1, UInt8.toNat_inj.1 h'.2⟩
  · rintro ⟨rfl, rfl⟩; rfl
theorem orL_zero (l : List UInt8) : orL l = 0 ↔ ∀ x ∈ l, x = 0 := by
  suffices h : ∀ (l : List UInt8) (a : UInt8), l.foldl (· ||| ·) a = 0 ↔ a = 0 ∧ ∀ x ∈ l, x = 0 by
    unfold orL; rw [h]; simp
  intro l
  induction l with
  | nil => intro a; simp
  | cons y ys ih => intro a; simp only [List.foldl_cons, ih, u8_or_zero, List.mem_cons, forall_eq_or_imp, and_assoc]
theorem u8_xor_zero (x y : UInt8) : x ^^^ y = 0 ↔ x = y := by
  constructor
  · intro h
    have h' : (x ^^^ y).toNat = 0 := by rw [h]; rfl
    rw [UInt8.toNat_xor] at h'
    refine UInt8.toNat_inj.1 ?_
    have h2 : (x.toNat ^^^ y.toNat) ^^^ y.toNat = 0 ^^^ y.toNat := by rw [h']
    simpa [Nat.xor_assoc] using h2
  · rintro rfl; exact UInt8.toNat_inj.1 (by rw [UInt8.toNat_xor, Nat.xor_self]; rfl)
/-- Is all nought? -/
def zeroB (l : List UInt8) : Bool := decide (∀ x ∈ l, x = 0)
theorem orL_xorL (a b : List UInt8) (h : a.length = b.length) : orL (xorL a b) = 0 ↔ a = b := by
  rw [orL_zero]
  constructor
  · intro hz
    refine List.ext_getElem h fun i h1 h2 => ?_
    have := hz (a.getD i 0 ^^^ b.getD i 0) (by unfold xorL; exact List.mem_map.2 ⟨i, by simp; omega, rfl⟩)
    rw [u8_xor_zero] at this
    simpa [h1, h2] using this
  · rintro rfl x hx
    unfold xorL at hx
    obtain ⟨i, _, rfl⟩ := List.mem_map.1 hx
    rw [u8_xor_zero]
theorem xorL_take_succ (a b : List UInt8) (k : Nat) (h1 : k < a.length) (h2 : k < b.length) : (xorL a b).take (k + 1) = (xorL a b).take k ++ [a.getD k 0 ^^^ b.getD k 0] := by
  rw [List.take_succ_eq_append_getElem (by simp [xorL]; omega)]
  simp [xorL]
theorem xorL_length (a b : List UInt8) : (xorL a b).length = min a.length b.length := by simp [xorL]
theorem nat0_beq (x : UInt8) : (((x.toNat : Nat) : Int) == 0) = decide (x = 0) := by
  rw [Bool.eq_iff_iff]
  simp only [beq_iff_eq, decide_eq_true_eq]
  constructor
  · intro h; exact UInt8.toNat_inj.1 (by simp; omega)
  · rintro rfl; rfl

/-! ### Rows of rows -/
def RdL (w : World) (v : Value) (vs : List Value) (ls : List (List UInt8)) : Prop :=
  (∃ a cap, v = .slice a vs.length cap ∧ vs.length ≤ cap ∧ cap ≤ maxLen ∧
    (vs = [] ∨ ∃ b off, a = some ⟨b, off, none⟩ ∧ ∀ i, i < vs.length → w.cell? ⟨b, off + i, none⟩ = some (vs.getD i undef))) ∧
  vs.length = ls.length ∧ ∀ i, i < vs.length → Rd w (vs.getD i undef) (ls.getD i [])
theorem RdL.kept {w w' : World} {v : Value} {vs : List Value} {ls : List (List UInt8)} (h : RdL w v vs ls) (hb : Below w.heap.size w w') : RdL w' v vs ls := by
  obtain ⟨⟨a, cap, h1, h2, h3, h5⟩, h6, h7⟩ := h
  refine ⟨⟨a, cap, h1, h2, h3, h5.imp id ?_⟩, h6, fun i hi => (h7 i hi).kept hb⟩
  rintro ⟨b, off, e, hc⟩
  refine ⟨b, off, e, fun i hi => ?_⟩
  have := hc i hi
  rw [hb.cell (p := ⟨b, off + i, none⟩) (World.block_lt_of_cell? w _ this)]
  exact this
theorem RdL.cellAt {w : World} {v : Value} {vs : List Value} {ls : List (List UInt8)} (h : RdL w v vs ls) {i : Nat} (hi : i < vs.length) :
    ∃ b off cap a' cap', v = .slice (some ⟨b, off, none⟩) vs.length cap ∧ vs.length ≤ cap ∧ w.cell? ⟨b, off + i, none⟩ = some (.slice a' (ls.getD i []).length cap') ∧ Rd w (.slice a' (ls.getD i []).length cap') (ls.getD i []) := by
  obtain ⟨⟨a, cap, rfl, h2, h3, h5⟩, h6, h7⟩ := h
  rcases h5 with rfl | ⟨b, off, rfl, hc⟩
  · simp at hi
  · have hr := h7 i hi
    obtain ⟨a', cap', e, _⟩ := id hr
    rw [e] at hr
    exact ⟨b, off, cap, a', cap', rfl, h2, by rw [hc i hi, e], hr⟩
/-- How many bytes the rows have. -/
def totL (ls : List (List UInt8)) : Nat := ls.flatten.length
theorem totL_take_succ (ls : List (List UInt8)) (k : Nat) (h : k < ls.length) : totL (ls.take (k + 1)) = totL (ls.take k) + (ls.getD k []).length := by
  unfold totL
  rw [List.take_succ_eq_append_getElem h, List.flatten_append, List.length_append]
  simp [h]
theorem flat_take_succ (ls : List (List UInt8)) (k : Nat) (h : k < ls.length) : (ls.take (k + 1)).flatten = (ls.take k).flatten ++ ls.getD k [] := by
  rw [List.take_succ_eq_append_getElem h, List.flatten_append]
  simp [h]
theorem totL_take_le (ls : List (List UInt8)) (k : Nat) : totL (ls.take k) ≤ totL ls := by
  unfold totL
  have h : ls.flatten = (ls.take k).flatten ++ (ls.drop k).flatten := by rw [← List.flatten_append, List.take_append_drop]
  rw [h]
  simp
theorem New.rdl {e : TypeId} {w w1 : World} {r v : Value} {l : List UInt8} {vs : List Value} {ls : List (List UInt8)} (h : RdL w v vs ls) (hN : New e w r l w1) : RdL w1 v vs ls := h.kept hN.2

theorem Rd.litc {w : World} {e : TypeId} (l : List UInt8) {cs : Array Value} {n b : Nat} (h : cs = (l.map bv).toArray) (hn : n = l.length) (hb : b = w.heap.size) (hm : l.length ≤ maxLen) : Rd (w.alloc (.cells cs e)) (.slice (some ⟨b, 0, none⟩) n n) l := by
  subst h hn hb
  exact Rd.lit l hm
theorem below_alloc (w : World) (o : Obj) : Below w.heap.size w (w.alloc o) := (Below.refl _ _).alloc (Nat.le_refl _) o
theorem bstep {w w1 w2 : World} (h1 : Below w.heap.size w w1) (h2 : Below w1.heap.size w1 w2) : Below w.heap.size w w2 := h1.trans (h2.mono h1.size)

theorem RdL.lit {w : World} {e : TypeId} (vs : List Value) (ls : List (List UInt8)) {cs : Array Value} {n b : Nat} (h : cs = vs.toArray) (hn : n = vs.length) (hb : b = w.heap.size) (hm : vs.length ≤ maxLen)
    (hl : vs.length = ls.length) (hr : ∀ i, i < vs.length → Rd w (vs.getD i undef) (ls.getD i [])) : RdL (w.alloc (.cells cs e)) (.slice (some ⟨b, 0, none⟩) n n) vs ls := by
  subst h hn hb
  refine ⟨⟨_, _, rfl, Nat.le_refl _, hm, .inr ⟨_, 0, rfl, fun i hi => ?_⟩⟩, hl, fun i hi => (hr i hi).kept (below_alloc _ _)⟩
  have h1 : (w.alloc (.cells vs.toArray e)).ownsRow w.heap.size e 1 (.slice (some ⟨w.heap.size, 0, none⟩) vs.length vs.length) vs.length vs.toArray.toList :=
    World.ownsRow_lit w vs.toArray vs.length (Nat.le_refl _) hm (by simp)
  have := h1.cellAt i (by simpa using hi)
  simp only [Nat.zero_add]
  rw [this]
  simp [hi]

/-- A place of a row of the call's own: what it holds, that it may be written, and what the row is then. -/
theorem own_at {w : World} {base : Nat} {e : TypeId} {a : Option Addr} {cap : Nat} {l : List UInt8} {n : Nat} (hn : n = l.length) (h : w.ownsRow base e 1 (.slice a n cap) l.length (l.map bv)) {j : Nat} (hj : j < n) :
    ∃ g, a = some ⟨g, 0, none⟩ ∧ base ≤ g ∧ n ≤ cap ∧ w.cell? ⟨g, j, none⟩ = some (.int .u8 ((l.getD j 0).toNat : Int)) ∧ w.frozen? ⟨g, j, none⟩ = false ∧
      ∀ (u : UInt8) (x : Int), x = (u.toNat : Int) → (w.setCell ⟨g, j, none⟩ (.int .u8 x)).ownsRow base e 1 (.slice a n cap) (l.set j u).length ((l.set j u).map bv) := by
  subst hn
  rcases h.2 with ⟨h', h0⟩ | ⟨g, cap', cur, h', hb, hg, hn, hm, hs, ht⟩
  · omega
  · simp only [Value.slice.injEq, true_and] at h'
    obtain ⟨rfl, rfl⟩ := h'
    refine ⟨g, rfl, hb, hn, ?_, h.frozenAt j, fun u x hx => ?_⟩
    · rw [h.cellAt j (by simpa using hj)]
      simp [bv, hj]
    · subst hx
      have h1 := (h.stored j (bv u)).1
      rw [List.length_set, List.map_set]
      exact h1
theorem ownsRow_below {w w' : World} {base : Nat} {e : TypeId} {v : Value} {n : Nat} {xs : List Value} (h : w.ownsRow base e 1 v n xs) (hb : Below w.heap.size w w') : w'.ownsRow base e 1 v n xs := by
  refine ⟨h.1, h.2.imp id ?_⟩
  rintro ⟨g, cap, cur, h1, h2, h3, h4⟩
  refine ⟨g, cap, cur, h1, h2, ?_, h4⟩
  rw [hb.block g (Array.getElem?_eq_some_iff.1 h3).1, h3]

theorem str_toList (a : List UInt8) : (⟨a.toArray⟩ : ByteArray).toList = a := by
  rw [ByteArray.toList_eq]
theorem list_beq (a b : List UInt8) : (a == b) = decide (a = b) := by
  rw [Bool.eq_iff_iff, beq_iff_eq, decide_eq_true_eq]
theorem str_cat (a b : List UInt8) : (⟨a.toArray⟩ : ByteArray) ++ ⟨b.toArray⟩ = ⟨(a ++ b).toArray⟩ := by
  rw [ByteArray.ext_iff, ByteArray.data_append]
  simp

theorem Rd.take {w : World} {a : Option Addr} {len cap : Nat} {l : List UInt8} (h : Rd w (.slice a len cap) l) {n : Nat} (hn : n ≤ len) : Rd w (.slice a n cap) (l.take n) := by
  obtain ⟨a', cap', e, h2, h3, h4, h5⟩ := h
  simp only [Value.slice.injEq] at e
  obtain ⟨rfl, rfl, rfl⟩ := e
  have hl : (l.take n).length = n := by simp; omega
  refine ⟨a, cap, by rw [hl], by rw [hl]; omega, h3, h4, ?_⟩
  rcases h5 with rfl | ⟨b, off, e, hc⟩
  · exact .inl (by simp)
  · refine .inr ⟨b, off, e, fun i hi => ?_⟩
    rw [hl] at hi
    rw [hc i (by omega)]
    simp [hi]
theorem xorL_twice (a b : List UInt8) : xorL (xorL a b) b = a.take (min a.length b.length) := by
  refine List.ext_getElem (by simp [xorL]) fun i h1 h2 => ?_
  have h3 : i < min a.length b.length := by simpa using h2
  have h4 : i < (xorL a b).length := by rw [xorL_length]; exact h3
  have e1 : (xorL a b).getD i 0 = a.getD i 0 ^^^ b.getD i 0 := by simp [xorL, h3]
  have h5 : (xorL (xorL a b) b)[i] = (xorL a b).getD i 0 ^^^ b.getD i 0 := by simp [xorL]
  rw [h5, e1, UInt8.xor_assoc, UInt8.xor_self, UInt8.xor_zero]
  simp [show i < a.length by omega]
theorem leN_stB (x : Nat) : ∀ k, leN ((List.range k).map (stB x)) = x % 256 ^ k
  | 0 => by simp [leN, Nat.mod_one]
  | k + 1 => by
    rw [List.range_succ, List.map_append, List.map_singleton, leN_snoc, leN_stB x k, Nat.mod_pow_succ]
    simp [stB]

theorem and_small (z : Int) (m : Nat) (hm : m < 9223372036854775808) : ∃ X : Nat, X ≤ m ∧ bits .and .i64 z (m : Int) = (X : Int) := by
  have h : (BitVec.ofInt 64 z &&& BitVec.ofInt 64 (m : Int)).toNat ≤ m := by
    rw [BitVec.toNat_and]
    refine Nat.le_trans Nat.and_le_right ?_
    rw [ofInt_u64 m (by omega)]
    exact Nat.le_refl _
  refine ⟨(BitVec.ofInt 64 z &&& BitVec.ofInt 64 (m : Int)).toNat, h, ?_⟩
  show IntKind.i64.wrap ((BitVec.ofInt 64 z &&& BitVec.ofInt 64 (m : Int)).toNat : Int) = _
  exact IntWalk.i64_in _ (by constructor <;> omega)
theorem pow_mask (t : Nat) (h : t ≤ 7) : ∃ m : UInt8, m ≠ 0 ∧ (2 : Int) ^ t % 256 = (m.toNat : Int) := by
  have h' : t = 0 ∨ t = 1 ∨ t = 2 ∨ t = 3 ∨ t = 4 ∨ t = 5 ∨ t = 6 ∨ t = 7 := by omega
  rcases h' with rfl | rfl | rfl | rfl | rfl | rfl | rfl | rfl
  · exact ⟨1, by decide, by decide⟩
  · exact ⟨2, by decide, by decide⟩
  · exact ⟨4, by decide, by decide⟩
  · exact ⟨8, by decide, by decide⟩
  · exact ⟨16, by decide, by decide⟩
  · exact ⟨32, by decide, by decide⟩
  · exact ⟨64, by decide, by decide⟩
  · exact ⟨128, by decide, by decide⟩
theorem turned (l : List UInt8) (k : Nat) (hk : k < l.length) (y m : UInt8) (hy : l.getD k 0 = y) (hm : m ≠ 0) :
    l ≠ l.set k (y ^^^ m) ∧ (xorL l (l.set k (y ^^^ m))).getD k 0 = m ∧ orL (xorL l (l.set k (y ^^^ m))) ≠ 0 := by
  have hs : (l.set k (y ^^^ m)).getD k 0 = y ^^^ m := by simp [hk]
  have h1 : (xorL l (l.set k (y ^^^ m))).getD k 0 = m := by
    have : (xorL l (l.set k (y ^^^ m))).getD k 0 = l.getD k 0 ^^^ (l.set k (y ^^^ m)).getD k 0 := by simp [xorL, hk]
    rw [this, hs, hy, ← UInt8.xor_assoc, UInt8.xor_self, UInt8.zero_xor]
  have h2 : l ≠ l.set k (y ^^^ m) := by
    intro h
    have h3 : l.getD k 0 = (l.set k (y ^^^ m)).getD k 0 := by rw [← h]
    rw [hs, hy] at h3
    apply hm
    have h4 : y ^^^ y = y ^^^ (y ^^^ m) := by rw [← h3]
    rw [UInt8.xor_self, ← UInt8.xor_assoc, UInt8.xor_self, UInt8.zero_xor] at h4
    exact h4.symm
  refine ⟨h2, h1, fun h => h2 ?_⟩
  exact (orL_xorL _ _ (by simp)).1 h

/-! ### What came in -/
def IsRow (k : IntKind) (w : World) (a : Option Addr) (len cap : Nat) (zs : List Int) : Prop :=
  (a = none ∧ len = 0 ∧ cap = 0 ∧ zs = []) ∨
  ∃ x, a = some x ∧ len ≤ cap ∧ cap ≤ maxLen ∧ zs.length = cap ∧ (∀ i, i < zs.length → w.cell? (x.add i) = some (.int k (zs.getD i 0))) ∧ ∀ n ∈ zs, (Lit.int k n).wf = true

theorem wf_u8 {n : Int} (h : (Lit.int .u8 n).wf = true) : 0 ≤ n ∧ n < 256 := by
  have := bounds_u8 h
  omega
theorem IsRow.rd {w : World} {a : Option Addr} {len cap : Nat} {zs : List Int} (h : IsRow .u8 w a len cap zs) : ∃ l : List UInt8, l.length = len ∧ Rd w (.slice a len cap) l := by
  rcases h with ⟨rfl, rfl, rfl, rfl⟩ | ⟨x, rfl, hl, hm, hz, hc, hw⟩
  · exact ⟨[], rfl, Rd.nil w⟩
  · have hlen : ((zs.take len).map fun n => UInt8.ofNat n.toNat).length = len := by simp; omega
    refine ⟨(zs.take len).map fun n => UInt8.ofNat n.toNat, hlen, _, cap, by rw [hlen], by rw [hlen]; exact hl, hm, (fun h => by cases h), ?_⟩
    by_cases h0 : len = 0
    · left; exact List.eq_nil_of_length_eq_zero (by rw [hlen]; exact h0)
    · right
      obtain ⟨b, off, spot⟩ := x
      have hspot : spot = none := by simpa [Addr.add] using World.cell?_spot (hc 0 (by omega))
      subst hspot
      refine ⟨b, off, rfl, fun i hi => ?_⟩
      rw [hlen] at hi
      have h1 := hc i (by omega)
      have hplain : (⟨b, off, none⟩ : Addr).add i = ⟨b, off + i, none⟩ := by unfold Addr.add; split <;> simp_all
      rw [hplain] at h1
      rw [h1]
      have h2 : i < zs.length := by omega
      have h3 := wf_u8 (hw zs[i] (List.getElem_mem h2))
      congr 2
      have h4 : i < (zs.take len).length := by simp; omega
      simp only [List.getD_eq_getElem?_getD, List.getElem?_map, List.getElem?_take, hi, if_true, List.getElem?_eq_getElem h2, Option.map_some, Option.getD_some, UInt8.toNat_ofNat']
      omega

/-! Short names for what a region's walk says again and again (claims whose texts are made smaller: compact.py). -/
theorem putA {α : Type _} (l : List α) (i : Nat) (a : α) : l.toArray.setIfInBounds i a = (l.set i a).toArray := List.setIfInBounds_toArray ..
theorem putB {α : Type _} (a b : α) (l : List α) : (a :: l).set 0 b = b :: l := List.set_cons_zero
theorem putC {α : Type _} (a b : α) (l : List α) (n : Nat) : (a :: l).set (n + 1) b = a :: l.set n b := List.set_cons_succ
end Go.Proofs.Ytmgkocoemgpgbaa
