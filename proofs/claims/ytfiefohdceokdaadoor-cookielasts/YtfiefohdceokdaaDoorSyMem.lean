/- Rows of one's own, and bytes, beside a block that calls change. No program's text is named. -/
import Derived.Test.YtfiefohdceokdaaDoorBase
namespace Go.Proofs.YtfiefohdceokdaaDoor
open Go.ChangeShapes Go.WideShapes Go.ChangeAt Go.RowKit
set_option linter.unusedSimpArgs false
set_option linter.unusedVariables false

/-- A row of bytes of one's own, made since a heap of so many blocks. -/
def Ow (e : TypeId) (base : Nat) (v : Value) (l : List UInt8) (w : World) : Prop := w.ownsRow base e 1 v l.length (l.map bv)
theorem Ow.rd {e : TypeId} {base : Nat} {v : Value} {l : List UInt8} {w : World} (h : Ow e base v l w) : Rd w v l := Rd.of_row h
theorem Ow.of_new {e : TypeId} {v : Value} {l : List UInt8} {w w' : World} (h : New e w v l w') : Ow e w.heap.size v l w' := h.1
theorem Ow.mono {e : TypeId} {base base' : Nat} {v : Value} {l : List UInt8} {w : World} (h : Ow e base v l w) (hb : base' ≤ base) : Ow e base' v l w := own_mono h hb
theorem Ow.kept {e : TypeId} {base : Nat} {v : Value} {l : List UInt8} {w w' : World} (h : Ow e base v l w) (hb : Below w.heap.size w w') : Ow e base v l w' := own_chg h (Chg.of_below (S := fun _ => False) hb) (fun _ _ => id)
theorem Ow.nil (e : TypeId) (base : Nat) (w : World) : Ow e base (.slice none 0 0) [] w := World.ownsRow_nil _ _ _ _
theorem Ow.not_blk {e ty : TypeId} {base g : Nat} {v : Value} {l : List UInt8} {cs : List Value} {w : World} (h : Ow e base v l w) (hb : BlkAt g ty cs w) (hne : e ≠ ty) : v.ownBlock ≠ some g := by
  rcases h.2 with ⟨rfl, h0⟩ | ⟨g', cap, cur, rfl, hb', hg, hn, hm, hs, ht⟩
  · simp [Value.ownBlock]
  · intro h
    have h1 : g' = g := by simpa [Value.ownBlock] using h
    subst h1
    unfold BlkAt at hb
    rw [hg] at hb
    simp at hb
    exact hne hb.2
/-- It stays where the block of another kind changes. -/
theorem Ow.chg {e ty : TypeId} {base g : Nat} {v : Value} {l : List UInt8} {cs : List Value} {w w' : World} (h : Ow e base v l w) (hb : BlkAt g ty cs w) (hne : e ≠ ty) (c : Chg (fun b => b = g) w w') : Ow e base v l w' :=
  own_chg h c fun b h1 h2 => h.not_blk hb hne (by rw [h1, h2])
/-- .. where a row that is newer, or older, is written. -/
theorem Ow.other {e : TypeId} {base g : Nat} {v : Value} {l : List UInt8} {w w' : World} (h : Ow e base v l w) (c : Chg (fun b => b = g) w w') (hg : v.ownBlock ≠ some g) : Ow e base v l w' :=
  own_chg h c fun b h1 h2 => hg (by rw [h1, h2])
theorem Ow.lt {e : TypeId} {base : Nat} {v : Value} {l : List UInt8} {w : World} (h : Ow e base v l w) {g : Nat} (hg : v.ownBlock = some g) : base ≤ g ∧ g < w.heap.size := World.ownsRow.lt h g hg
/-- Cells none of which is a byte. -/
def No8 (cs : List Value) : Prop := ∀ (j : Nat) (x : Int), cs[j]? ≠ some (.int .u8 x)
theorem Rd.past16 {w w' : World} {v : Value} {l : List UInt8} {g : Nat} {ty : TypeId} {cs : List Value} (h : Rd w v l) (hb : BlkAt g ty cs w) (hn : No8 cs) (c : Chg (fun b => b = g) w w') : Rd w' v l := by
  obtain ⟨a, k, e1, h2, h3, h4, h5⟩ := h
  refine ⟨a, k, e1, h2, h3, h4, h5.imp id ?_⟩
  rintro ⟨b, off, e2, hc⟩
  refine ⟨b, off, e2, fun i hi => ?_⟩
  have h6 := hc i hi
  have hne : b ≠ g := by
    rintro rfl
    rw [hb.cell] at h6
    exact hn _ _ h6
  rw [World.cell?_of_block (w := w) (c.block b (World.block_lt_of_cell? _ _ h6) hne)]
  exact h6
theorem Chg.gone {g B : Nat} {a w w' : World} (h : Below B a w) (c : Chg (fun b => b = g) w w') (hB : B ≤ w.heap.size) (hg : B ≤ g) : Below B a w' := c.below h hB fun k _ e => by omega
theorem No8.of_slices {cs : List Value} (h : ∀ v ∈ cs, ∀ x, v ≠ .int .u8 x) : No8 cs := fun j x e => h _ (List.mem_of_getElem? e) x rfl
/-- A cipher's cells, a state's cells. -/
def ckD (vk : Value) (n : Nat) : List Value := [vk, .int .u64 (n : Int)]
def stD (vc vh vk : Value) (n : Nat) : List Value := [vc, vh, vk, .int .u64 (n : Int)]
theorem ckD_no8 (a : Option Addr) (l c n : Nat) : No8 (ckD (.slice a l c) n) := No8.of_slices (by
  intro v hv x
  simp only [ckD, List.mem_cons, List.not_mem_nil, or_false] at hv
  rcases hv with rfl | rfl <;> simp)
theorem stD_no8 (a1 a2 a3 : Option Addr) (l1 c1 l2 c2 l3 c3 n : Nat) : No8 (stD (.slice a1 l1 c1) (.slice a2 l2 c2) (.slice a3 l3 c3) n) := No8.of_slices (by
  intro v hv x
  simp only [stD, List.mem_cons, List.not_mem_nil, or_false] at hv
  rcases hv with rfl | rfl | rfl | rfl <;> simp)
/-- Cells, a cipher's among them. -/
def inB (pre post : List Value) (vk : Value) (n : Nat) : List Value := pre ++ [vk, .int .u64 (n : Int)] ++ post
theorem set_mid (pre post : List Value) (a b c : Value) : (pre ++ [a, b] ++ post).set (pre.length + 1) c = pre ++ [a, c] ++ post := by
  rw [List.append_assoc, List.set_append_right _ _ (by omega), Nat.add_sub_cancel_left, List.append_assoc]
  rfl
theorem set_mid0 (pre post : List Value) (a b c : Value) : (pre ++ [a, b] ++ post).set pre.length c = pre ++ [c, b] ++ post := by
  rw [List.append_assoc, List.set_append_right _ _ (by omega), Nat.sub_self, List.append_assoc]
  rfl
theorem get_mid0 (pre post : List Value) (a b : Value) : (pre ++ [a, b] ++ post)[pre.length]? = some a := by
  rw [List.append_assoc, List.getElem?_append_right (Nat.le_refl _), Nat.sub_self]
  rfl
theorem get_mid1 (pre post : List Value) (a b : Value) : (pre ++ [a, b] ++ post)[pre.length + 1]? = some b := by
  rw [List.append_assoc, List.getElem?_append_right (by omega), Nat.add_sub_cancel_left]
  rfl
theorem inB_set (pre post : List Value) (vk : Value) (n m : Nat) : (inB pre post vk n).set (pre.length + 1) (.int .u64 (m : Int)) = inB pre post vk m := set_mid _ _ _ _ _
theorem inB_set0 (pre post : List Value) (vk v : Value) (n : Nat) : (inB pre post vk n).set pre.length v = inB pre post v n := set_mid0 _ _ _ _ _
theorem inB_get0 (pre post : List Value) (vk : Value) (n : Nat) : (inB pre post vk n)[pre.length]? = some vk := get_mid0 _ _ _ _
theorem inB_get1 (pre post : List Value) (vk : Value) (n : Nat) : (inB pre post vk n)[pre.length + 1]? = some (.int .u64 (n : Int)) := get_mid1 _ _ _ _
end Go.Proofs.YtfiefohdceokdaaDoor
