/- What stands behind the law of bounds while it runs. -/
import Derived.Test.YtliiofjcghdjoaaDoorAw22
import Derived.Test.YtliiofjcghdjoaaDoorSmt
namespace Go.Proofs.YtliiofjcghdjoaaDoor
open Go.ChangeShapes Go.WideShapes Go.ChangeAt Go.RowKit
set_option linter.unusedSimpArgs false
set_option linter.unusedVariables false

theorem SnP.blk {g : Nat} {r : Rl} {s : Ses} {w : World} (h : SnP g r s w) : ∃ cs, BlkAt g 80 cs w ∧ No8 cs := by
  obtain ⟨a1, c1, a2, c2, a, b, h1, h2, h3, h4, h5⟩ := h.mem
  exact ⟨_, h3, snC_no8 _ _ _ _ _ _ _ _ _ _ _ _ _⟩
theorem SnP.k8 {g : Nat} {r : Rl} {s : Ses} {w w' : World} (h : SnP g r s w) (c : Chg (fun b => b = g) w w') : K8 w w' := by
  obtain ⟨cs, h1, h2⟩ := h.blk
  exact K8.blk h1 h2 c
/-- Something else is written. -/
theorem SnP.other {S : Nat → Prop} {g : Nat} {r : Rl} {s : Ses} {w w' : World} (h : SnP g r s w) (c : Chg S w w') (hS : ¬ S g) (k : K8 w w') : SnP g r s w' := by
  obtain ⟨a1, c1, a2, c2, a, b, h1, h2, h3, h4, h5⟩ := h.mem
  exact ⟨h.ok, a1, c1, a2, c2, a, b, h1, h2, h3.chg c hS, h4.k8 k, h5.k8 k⟩
theorem Zr.ses {e : TypeId} (he : e ≠ 80) {z : Value} {base : Nat} {v : Value} {xs : List Value} {g : Nat} {r : Rl} {s : Ses} {w w' : World} (h : Zr e z base v xs w) (hs : SnP g r s w) (c : Chg (fun b => b = g) w w') : Zr e z base v xs w' := by
  obtain ⟨cs, h1, -⟩ := hs.blk
  exact h.chg c fun b hb e1 => h.ne h1 he b hb e1
theorem SnP.row {g : Nat} {r : Rl} {s : Ses} {e : TypeId} (he : e ≠ 80) {z : Value} {base : Nat} {v : Value} {xs : List Value} {w w' : World} (hs : SnP g r s w) (h : Zr e z base v xs w) (c : Chg (fun b => some b = v.ownBlock) w w') (k : K8 w w') : SnP g r s w' := by
  obtain ⟨cs, h1, -⟩ := hs.blk
  exact hs.other c (fun e1 => h.ne h1 he g e1.symm rfl) k
/-- The first so many numbers as cells. -/
def nV (m : Nat) : List Value := (List.range m).map fun k => Value.int .u64 ((k : Nat) : Int)
theorem nV_length (m : Nat) : (nV m).length = m := by simp [nV]
theorem nV_succ (m : Nat) : nV (m + 1) = nV m ++ [.int .u64 (m : Int)] := by simp [nV, List.range_succ]
theorem nV_getD {m k : Nat} (h : k < m) : (nV m).getD k undef = .int .u64 (k : Int) := by simp [nV, h]
theorem nV_8 (m : Nat) : ∀ y ∈ nV m, ∀ k, y ≠ .int .u8 k := by
  intro y hy k e
  obtain ⟨j, -, rfl⟩ := List.mem_map.1 hy
  cases e

structure Bd22 (w0 : World) (gr ga gb : Nat) (r : Rl) (key : List UInt8) (ms mn : Nat) (cs : List UInt8) (vn vb : Value) (bs : List Value) (came : List Nat) (w : World) : Prop where
  rul : BlkAt gr 24 (rlC r) w
  sa : SnP ga r (saS key ms) w
  sb : SnP gb r (sbS key came) w
  num : Zr 22 (.int .u64 0) w0.heap.size vn (nV mn) w
  box : Zr 40 (.slice none 0 0) w0.heap.size vb bs w
  len : bs.length = cs.length
  row : ∀ k, k < cs.length → ∃ a c, bs.getD k undef = .slice a 17 c ∧ Rd w (.slice a 17 c) (bxL key k (cs.getD k 0))
  form : ∀ y ∈ bs, ∀ k, y ≠ .int .u8 k
  below : Below w0.heap.size w0 w
  ne : ga ≠ gb ∧ w0.heap.size ≤ ga ∧ w0.heap.size ≤ gb
theorem Bd22.kept {w0 w w' : World} {gr ga gb : Nat} {r : Rl} {key : List UInt8} {ms mn : Nat} {cs : List UInt8} {vn vb : Value} {bs : List Value} {came : List Nat} (h : Bd22 w0 gr ga gb r key ms mn cs vn vb bs came w) (hb : Below w.heap.size w w') : Bd22 w0 gr ga gb r key ms mn cs vn vb bs came w' :=
  ⟨h.rul.kept hb, h.sa.kept hb, h.sb.kept hb, h.num.kept hb, h.box.kept hb, h.len, fun k hk => by obtain ⟨a, c, h1, h2⟩ := h.row k hk; exact ⟨a, c, h1, h2.kept hb⟩, h.form, stepB h.below hb, h.ne⟩
/-- The one that seals has changed. -/
theorem Bd22.seal {w0 w w' : World} {gr ga gb : Nat} {r : Rl} {key : List UInt8} {ms mn : Nat} {cs : List UInt8} {vn vb : Value} {bs : List Value} {came : List Nat} (h : Bd22 w0 gr ga gb r key ms mn cs vn vb bs came w) (c : Chg (fun b => b = ga) w w') :
    BlkAt gr 24 (rlC r) w' ∧ SnP gb r (sbS key came) w' ∧ Zr 22 (.int .u64 0) w0.heap.size vn (nV mn) w' ∧ Zr 40 (.slice none 0 0) w0.heap.size vb bs w' ∧ (∀ k, k < cs.length → ∃ a c, bs.getD k undef = .slice a 17 c ∧ Rd w' (.slice a 17 c) (bxL key k (cs.getD k 0))) ∧ Below w0.heap.size w0 w' := by
  have k8 := h.sa.k8 c
  obtain ⟨ca, hca, -⟩ := h.sa.blk
  have hra : gr ≠ ga := by
    rintro rfl
    have h1 := h.rul
    unfold BlkAt at h1 hca
    rw [h1] at hca
    simp at hca
  exact ⟨h.rul.chg c hra, h.sb.other c (fun e => h.ne.1 e.symm) k8, h.num.ses (by decide) h.sa c, h.box.ses (by decide) h.sa c, fun k hk => by obtain ⟨a, c, h1, h2⟩ := h.row k hk; exact ⟨a, c, h1, h2.k8 k8⟩, Chg.gone h.below c h.below.size h.ne.2.1⟩
theorem Bd22.seal0 {w0 w w' : World} {gr ga gb : Nat} {r : Rl} {key : List UInt8} {ms mn : Nat} {cs : List UInt8} {vn vb : Value} {bs : List Value} {came : List Nat} (h : Bd22 w0 gr ga gb r key ms mn cs vn vb bs came w) (c : Chg (fun b => b = ga) w w') {ms' : Nat} (hs : SnP ga r (saS key ms') w') : Bd22 w0 gr ga gb r key ms' mn cs vn vb bs came w' := by
  obtain ⟨h1, h2, h3, h4, h5, h6⟩ := h.seal c
  exact ⟨h1, hs, h2, h3, h4, h.len, h5, h.form, h6, h.ne⟩
/-- The one that opens has changed. -/
theorem Bd22.open {w0 w w' : World} {gr ga gb : Nat} {r : Rl} {key : List UInt8} {ms mn : Nat} {cs : List UInt8} {vn vb : Value} {bs : List Value} {came came' : List Nat} (h : Bd22 w0 gr ga gb r key ms mn cs vn vb bs came w) (c : Chg (fun b => b = gb) w w') (hs : SnP gb r (sbS key came') w') : Bd22 w0 gr ga gb r key ms mn cs vn vb bs came' w' := by
  have k8 := h.sb.k8 c
  obtain ⟨cb, hcb, -⟩ := h.sb.blk
  have hrb : gr ≠ gb := by
    rintro rfl
    have h1 := h.rul
    unfold BlkAt at h1 hcb
    rw [h1] at hcb
    simp at hcb
  exact ⟨h.rul.chg c hrb, h.sa.other c h.ne.1 k8, hs, h.num.ses (by decide) h.sb c, h.box.ses (by decide) h.sb c, h.len, fun k hk => by obtain ⟨a, c, h1, h2⟩ := h.row k hk; exact ⟨a, c, h1, h2.k8 k8⟩, h.form, Chg.gone h.below c h.below.size h.ne.2.2, h.ne⟩
/-- A block of another kind, newer, is written. -/
theorem Bd22.past {w0 w w' : World} {gr ga gb : Nat} {r : Rl} {key : List UInt8} {ms mn : Nat} {cs : List UInt8} {vn vb : Value} {bs : List Value} {came : List Nat} (h : Bd22 w0 gr ga gb r key ms mn cs vn vb bs came w) {g : Nat} {ty : TypeId} {ls : List Value} (hb : BlkAt g ty ls w) (hn : No8 ls) (c : Chg (fun b => b = g) w w') (hg : w0.heap.size ≤ g)
    (t1 : 24 ≠ ty) (t2 : 80 ≠ ty) (t3 : 22 ≠ ty) (t4 : 40 ≠ ty) : Bd22 w0 gr ga gb r key ms mn cs vn vb bs came w' := by
  have k8 := K8.blk hb hn c
  have hne : ∀ {k : Nat} {t : TypeId} {qs : List Value}, BlkAt k t qs w → t ≠ ty → ¬ k = g := by
    intro k t qs h1 h2 e
    subst e
    unfold BlkAt at h1 hb
    rw [h1] at hb
    simp at hb
    exact h2 hb.2
  obtain ⟨ca, hca, -⟩ := h.sa.blk
  obtain ⟨cb, hcb, -⟩ := h.sb.blk
  exact ⟨h.rul.chg c (hne h.rul t1), h.sa.other c (hne hca t2) k8, h.sb.other c (hne hcb t2) k8, h.num.chg c (fun b hb' e => h.num.ne hb t3 b hb' e), h.box.chg c (fun b hb' e => h.box.ne hb t4 b hb' e), h.len, fun k hk => by obtain ⟨a, c, h1, h2⟩ := h.row k hk; exact ⟨a, c, h1, h2.k8 k8⟩, h.form, Chg.gone h.below c h.below.size hg, h.ne⟩
theorem row_ne {e ty : TypeId} {z : Value} {base : Nat} {v : Value} {xs ls : List Value} {g : Nat} {w : World} (h : Zr e z base v xs w) (hb : BlkAt g ty ls w) (hne : e ≠ ty) : ¬ some g = v.ownBlock := fun e1 => h.ne hb hne g e1.symm rfl
/-- A number more. -/
theorem Bd22.numb {w0 w w' : World} {gr ga gb : Nat} {r : Rl} {key : List UInt8} {ms mn : Nat} {cs : List UInt8} {vn vb vn' : Value} {bs : List Value} {came : List Nat} (h : Bd22 w0 gr ga gb r key ms mn cs vn vb bs came w)
    (hz : Zr 22 (.int .u64 0) w0.heap.size vn' (nV mn ++ [.int .u64 (mn : Int)]) w') (c : Chg (fun b => some b = vn.ownBlock) w w') (k8 : K8 w w') : Bd22 w0 gr ga gb r key ms (mn + 1) cs vn' vb bs came w' :=
  ⟨h.rul.chg c (row_ne h.num h.rul (by decide)), h.sa.row (by decide) h.num c k8, h.sb.row (by decide) h.num c k8, by rw [nV_succ]; exact hz, h.box.chg c (fun b hb e => h.box.ne2 h.num (by decide) b hb e.symm), h.len, fun k hk => by obtain ⟨a, c, h1, h2⟩ := h.row k hk; exact ⟨a, c, h1, h2.k8 k8⟩, h.form, c.below h.below h.below.size (fun k _ hk => (h.num.lt k hk.symm).1), h.ne⟩
/-- .. and a box. -/
theorem Bd22.boxd {w0 w w' : World} {gr ga gb : Nat} {r : Rl} {key : List UInt8} {ms mn : Nat} {cs : List UInt8} {vn vb vb' : Value} {bs : List Value} {came : List Nat} (h : Bd22 w0 gr ga gb r key ms mn cs vn vb bs came w) (a : Option Addr) (k : Nat) (d : UInt8)
    (hz : Zr 40 (.slice none 0 0) w0.heap.size vb' (bs ++ [.slice a 17 k]) w') (c : Chg (fun b => some b = vb.ownBlock) w w') (k8 : K8 w w') (hr : Rd w (.slice a 17 k) (bxL key cs.length d)) : Bd22 w0 gr ga gb r key ms mn (cs ++ [d]) vn vb' (bs ++ [.slice a 17 k]) came w' := by
  refine ⟨h.rul.chg c (row_ne h.box h.rul (by decide)), h.sa.row (by decide) h.box c k8, h.sb.row (by decide) h.box c k8, h.num.chg c (fun b hb e => h.num.ne2 h.box (by decide) b hb e.symm), hz, by simp [h.len], fun j hj => ?_, fun y hy q e => ?_, c.below h.below h.below.size (fun k _ hk => (h.box.lt k hk.symm).1), h.ne⟩
  · have hj' : j < cs.length + 1 := by simpa using hj
    by_cases e : j = cs.length
    · subst e
      refine ⟨a, k, ?_, ?_⟩
      · rw [← h.len]; simp
      · have : (cs ++ [d]).getD cs.length 0 = d := by simp
        rw [this]
        exact hr.k8 k8
    · obtain ⟨a', c', h1, h2⟩ := h.row j (by omega)
      have e1 : (bs ++ [Value.slice a 17 k]).getD j undef = bs.getD j undef := by
        have := h.len
        simp only [List.getD_eq_getElem?_getD]
        rw [List.getElem?_append_left (by omega)]
      have e2 : (cs ++ [d]).getD j 0 = cs.getD j 0 := by
        simp only [List.getD_eq_getElem?_getD]
        rw [List.getElem?_append_left (by omega)]
      exact ⟨a', c', by rw [e1]; exact h1, by rw [e2]; exact h2.k8 k8⟩
  · rcases List.mem_append.1 hy with h1 | h1
    · exact h.form y h1 q e
    · rw [List.mem_singleton.1 h1] at e
      cases e
/-- Which were seen, as cells. -/
def snL (n : Nat) (l : List Nat) : List Value := (List.range n).map fun k => Value.bool (decide (k ∈ l))
theorem snL_get (n : Nat) (l : List Nat) {k : Nat} (h : k < n) : (snL n l)[k]? = some (.bool (decide (k ∈ l))) := by simp [snL, h]
theorem snL_no8 (n : Nat) (l : List Nat) : No8 (snL n l) := No8.of_slices (by
  intro v hv x e
  obtain ⟨j, -, rfl⟩ := List.mem_map.1 hv
  cases e)
theorem snL_set (n : Nat) (l l' : List Nat) {k : Nat} (hk : k ∈ l') (h : ∀ j, j ≠ k → (j ∈ l' ↔ j ∈ l)) : (snL n l).set k (.bool true) = snL n l' := by
  refine List.ext_getElem (by simp [snL]) fun i h1 h2 => ?_
  simp only [snL, List.getElem_set, List.getElem_map, List.getElem_range]
  by_cases e : k = i
  · subst e; simp [hk]
  · rw [if_neg e]
    have := h i (fun e1 => e e1.symm)
    simp [this]
end Go.Proofs.YtliiofjcghdjoaaDoor
