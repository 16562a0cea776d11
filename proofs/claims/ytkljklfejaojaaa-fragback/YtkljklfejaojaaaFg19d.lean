/- A buffer in memory: contracts of package frag, fourth part. -/
import Derived.Test.YtkljklfejaojaaaFg19c
namespace Go.Proofs.Ytkljklfejaojaaa
open Go.ChangeShapes Go.WideShapes Go.ChangeAt Go.RowKit
set_option linter.unusedSimpArgs false
set_option linter.unusedVariables false

/-- A piece in a row of the buffer's own, one of the blocks of K. -/
def PcP (K : Nat → Prop) (w : World) (v : Value) (p : List UInt8) : Prop := w.ownsRow 0 5 1 v p.length (p.map bv) ∧ ∀ g, v.ownBlock = some g → K g
theorem PcP.chg {K S : Nat → Prop} {w w' : World} {v : Value} {p : List UInt8} (h : PcP K w v p) (c : Chg S w w') (hS : ∀ k, k < w.heap.size → K k → ¬ S k) : PcP K w' v p :=
  ⟨own_chgG h.1 c fun g hg => hS g (h.1.lt g hg).2 (h.2 g hg), h.2⟩
theorem PcP.mono {K K' : Nat → Prop} {w : World} {v : Value} {p : List UInt8} (h : PcP K w v p) (hK : ∀ k, k < w.heap.size → K k → K' k) : PcP K' w v p :=
  ⟨h.1, fun g hg => hK g (h.1.lt g hg).2 (h.2 g hg)⟩
/-- A block of another kind is changed. -/
theorem PcP.past {K : Nat → Prop} {w w' : World} {v : Value} {p : List UInt8} {g : Nat} {ty : TypeId} {cs : List Value} (h : PcP K w v p) (hb : BlkAt g ty cs w) (hne : ty ≠ 5) (c : Chg (fun b => b = g) w w') : PcP K w' v p := by
  refine ⟨own_chgG h.1 c fun b hb' e => ?_, h.2⟩
  subst e
  rcases h.1.2 with ⟨rfl, h0⟩ | ⟨g', cap, cur, rfl, h1, h2, h3⟩
  · simp [Value.ownBlock] at hb'
  · have h4 : g' = b := by simpa [Value.ownBlock] using hb'
    subst h4
    unfold BlkAt at hb
    rw [h2] at hb
    simp at hb
    exact hne hb.2.symm
/-- An entry, with its row of pieces. -/
structure EyP (K : Nat → Prop) (w : World) (x : Ey) (vs : List Value) : Prop where
  blk : BlkAt x.g 68 (enK x.e x.b) w
  kg : K x.g
  kb : K x.b
  row : BlkAt x.b 22 vs w
  len : vs.length = x.e.parts.length
  pcs : ∀ i v, vs[i]? = some v → PcP K w v (x.e.parts.getD i [])
theorem EyP.chg {K S : Nat → Prop} {w w' : World} {x : Ey} {vs : List Value} (h : EyP K w x vs) (c : Chg S w w') (hS : ∀ k, k < w.heap.size → K k → ¬ S k) : EyP K w' x vs :=
  ⟨h.blk.chg c (hS _ h.blk.lt h.kg), h.kg, h.kb, h.row.chg c (hS _ h.row.lt h.kb), h.len, fun i v hv => (h.pcs i v hv).chg c hS⟩
theorem EyP.mono {K K' : Nat → Prop} {w : World} {x : Ey} {vs : List Value} (h : EyP K w x vs) (hK : ∀ k, k < w.heap.size → K k → K' k) : EyP K' w x vs :=
  ⟨h.blk, hK _ h.blk.lt h.kg, hK _ h.row.lt h.kb, h.row, h.len, fun i v hv => (h.pcs i v hv).mono hK⟩
theorem EyP.kept {K : Nat → Prop} {w w' : World} {x : Ey} {vs : List Value} (h : EyP K w x vs) (c : Below w.heap.size w w') : EyP K w' x vs :=
  h.chg (Chg.of_below (S := fun _ => False) c) fun _ _ _ => id
theorem blk_ne {w : World} {g g' : Nat} {ty ty' : TypeId} {cs cs' : List Value} (h : BlkAt g ty cs w) (h' : BlkAt g' ty' cs' w) (hne : ty ≠ ty') : g ≠ g' := by
  rintro rfl
  unfold BlkAt at h h'
  rw [h] at h'
  simp at h'
  exact hne h'.2
theorem own_neF {w : World} {base sz g : Nat} {e ty : TypeId} {v : Value} {n : Nat} {xs cs : List Value} (h : w.ownsRow base e sz v n xs) (hb : BlkAt g ty cs w) (hne : ty ≠ e) : ∀ b, v.ownBlock = some b → b ≠ g := by
  intro b hb' e1
  subst e1
  rcases h.2 with ⟨rfl, h0⟩ | ⟨g', cap, cur, rfl, h1, h2, h3⟩
  · simp [Value.ownBlock] at hb'
  · have h4 : g' = b := by simpa [Value.ownBlock] using hb'
    subst h4
    unfold BlkAt at hb
    rw [h2] at hb
    simp at hb
    exact hne hb.2.symm
/-- A block that is neither an entry's, nor that of its pieces' row, nor one of bytes. -/
theorem EyP.past {K : Nat → Prop} {w w' : World} {x : Ey} {vs : List Value} {g : Nat} {ty : TypeId} {cs : List Value} (h : EyP K w x vs) (hb : BlkAt g ty cs w) (h1 : x.g ≠ g) (h2 : x.b ≠ g) (h3 : ty ≠ 5) (c : Chg (fun b => b = g) w w') : EyP K w' x vs :=
  ⟨h.blk.chg c h1, h.kg, h.kb, h.row.chg c h2, h.len, fun i v hv => (h.pcs i v hv).past hb h3 c⟩
def EsP (K : Nat → Prop) (w : World) (xs : List Ey) : Prop := ∀ x ∈ xs, ∃ vs, EyP K w x vs
theorem EsP.chg {K S : Nat → Prop} {w w' : World} {xs : List Ey} (h : EsP K w xs) (c : Chg S w w') (hS : ∀ k, k < w.heap.size → K k → ¬ S k) : EsP K w' xs := fun x hx => by
  obtain ⟨vs, hv⟩ := h x hx
  exact ⟨vs, hv.chg c hS⟩
theorem EsP.kept {K : Nat → Prop} {w w' : World} {xs : List Ey} (h : EsP K w xs) (c : Below w.heap.size w w') : EsP K w' xs := h.chg (Chg.of_below (S := fun _ => False) c) fun _ _ _ => id
theorem EsP.sub {K : Nat → Prop} {w : World} {xs ys : List Ey} (h : EsP K w xs) (hs : ∀ y ∈ ys, y ∈ xs) : EsP K w ys := fun y hy => h y (hs y hy)
/-- No two entries lie in one block. -/
def DsP (xs : List Ey) : Prop := xs.Pairwise fun x y => x.g ≠ y.g ∧ x.b ≠ y.b
/-- A buffer's cells. -/
def buK (bf : Bf) (ve : Value) : List Value := [.int .i64 bf.pm, .int .i64 bf.am, .int .u64 (bf.age : Int), ve]
/-- A buffer. -/
structure BuX (K : Nat → Prop) (w : World) (gb : Nat) (ve : Value) (bf : Bf) (xs : List Ey) : Prop where
  l : bf.l = xs.map Ey.e
  blk : BlkAt gb 63 (buK bf ve) w
  kb : K gb
  row : w.ownsRow 0 66 1 ve xs.length (pvs xs)
  kr : ∀ g, ve.ownBlock = some g → K g
  ent : EsP K w xs
  dist : DsP xs
def BuP (K : Nat → Prop) (w : World) (gb : Nat) (bf : Bf) : Prop := ∃ ve xs, BuX K w gb ve bf xs
theorem BuX.chg {K S : Nat → Prop} {w w' : World} {gb : Nat} {ve : Value} {bf : Bf} {xs : List Ey} (h : BuX K w gb ve bf xs) (c : Chg S w w') (hS : ∀ k, k < w.heap.size → K k → ¬ S k) : BuX K w' gb ve bf xs :=
  ⟨h.l, h.blk.chg c (hS _ h.blk.lt h.kb), h.kb, own_chgG h.row c fun g hg => hS g (h.row.lt g hg).2 (h.kr g hg), h.kr, h.ent.chg c hS, h.dist⟩
theorem BuX.kept {K : Nat → Prop} {w w' : World} {gb : Nat} {ve : Value} {bf : Bf} {xs : List Ey} (h : BuX K w gb ve bf xs) (c : Below w.heap.size w w') : BuX K w' gb ve bf xs :=
  h.chg (Chg.of_below (S := fun _ => False) c) fun _ _ _ => id
theorem BuX.mono {K K' : Nat → Prop} {w : World} {gb : Nat} {ve : Value} {bf : Bf} {xs : List Ey} (h : BuX K w gb ve bf xs) (hK : ∀ k, k < w.heap.size → K k → K' k) : BuX K' w gb ve bf xs :=
  ⟨h.l, h.blk, hK _ h.blk.lt h.kb, h.row, fun g hg => hK g (h.row.lt g hg).2 (h.kr g hg), fun x hx => by
    obtain ⟨vs, hv⟩ := h.ent x hx
    exact ⟨vs, hv.mono hK⟩, h.dist⟩
theorem BuP.chg {K S : Nat → Prop} {w w' : World} {gb : Nat} {bf : Bf} (h : BuP K w gb bf) (c : Chg S w w') (hS : ∀ k, k < w.heap.size → K k → ¬ S k) : BuP K w' gb bf := by
  obtain ⟨ve, xs, h⟩ := h
  exact ⟨ve, xs, h.chg c hS⟩
theorem BuP.kept {K : Nat → Prop} {w w' : World} {gb : Nat} {bf : Bf} (h : BuP K w gb bf) (c : Below w.heap.size w w') : BuP K w' gb bf :=
  h.chg (Chg.of_below (S := fun _ => False) c) fun _ _ _ => id
theorem BuP.mono {K K' : Nat → Prop} {w : World} {gb : Nat} {bf : Bf} (h : BuP K w gb bf) (hK : ∀ k, k < w.heap.size → K k → K' k) : BuP K' w gb bf := by
  obtain ⟨ve, xs, h⟩ := h
  exact ⟨ve, xs, h.mono hK⟩
/-- The list of entries is another one. -/
theorem BuX.list {K : Nat → Prop} {w w' : World} {gb : Nat} {ve ve' : Value} {bf bf' : Bf} {xs ys : List Ey} (h : BuX K w gb ve bf xs) (hK : ∀ k, w.heap.size ≤ k → K k) (hs : ∀ y ∈ ys, y ∈ xs) (hd : DsP ys) (hl : bf'.l = ys.map Ey.e)
    (ho : w.ownsRow 0 66 1 ve' ys.length (pvs ys)) (hk : ∀ g, ve'.ownBlock = some g → K g) (hb : BlkAt gb 63 (buK bf' ve') w') (c : Chg (fun b => b = gb) w w') : BuX K w' gb ve' bf' ys := by
  refine ⟨hl, hb, h.kb, own_chgG ho c fun g hg => own_neF ho h.blk (by decide) g hg, hk, fun y hy => ?_, hd⟩
  obtain ⟨vs, hv⟩ := h.ent y (hs y hy)
  exact ⟨vs, hv.past h.blk (blk_ne hv.blk h.blk (by decide)) (blk_ne hv.row h.blk (by decide)) (by decide) c⟩
theorem keY_mem (f : Ey → Bool) (xs : List Ey) : ∀ y ∈ keY f xs, y ∈ xs := fun y hy => (List.mem_filter.1 hy).1
theorem keY_dist {f : Ey → Bool} {xs : List Ey} (h : DsP xs) : DsP (keY f xs) := List.Pairwise.filter _ h
theorem keY_map (f : Ent → Bool) (xs : List Ey) : (keY (fun x => f x.e) xs).map Ey.e = (xs.map Ey.e).filter fun e => !f e := by
  unfold keY
  rw [List.filter_map]
  rfl
/-- What a reader of texts, and of records that open with a text, finds unchanged. -/
def Kp (w w' : World) : Prop := ∀ b o v, w.cell? ⟨b, o, none⟩ = some v → w'.cell? ⟨b, o, none⟩ = some v ∨
  ((∃ k, v = .int .i64 k) ∧ ∀ o' s, o = o' + 1 → w.cell? ⟨b, o', none⟩ ≠ some (.string s)) ∨
  ((∃ a n c, v = .slice a n c) ∧ ∀ o' s, o = o' + 3 → w.cell? ⟨b, o', none⟩ ≠ some (.string s))
theorem Kp.str {w w' : World} (h : Kp w w') {b o : Nat} {s : ByteArray} (hc : w.cell? ⟨b, o, none⟩ = some (.string s)) : w'.cell? ⟨b, o, none⟩ = some (.string s) := by
  rcases h b o _ hc with h | ⟨⟨k, h⟩, -⟩ | ⟨⟨a, n, c, h⟩, -⟩
  · exact h
  · cases h
  · cases h
theorem Kp.trans {a b c : World} (h : Kp a b) (k : Kp b c) : Kp a c := by
  intro g o v hv
  rcases h g o v hv with h1 | h1 | h1
  · rcases k g o v h1 with h2 | ⟨h2, h3⟩ | ⟨h2, h3⟩
    · exact .inl h2
    · exact .inr (.inl ⟨h2, fun o' s ho hs => h3 o' s ho (h.str hs)⟩)
    · exact .inr (.inr ⟨h2, fun o' s ho hs => h3 o' s ho (h.str hs)⟩)
  · exact .inr (.inl h1)
  · exact .inr (.inr h1)
theorem Kp.of_below {w w' : World} (h : Below w.heap.size w w') : Kp w w' := fun b o v hv => .inl (cellF hv h)
theorem Kp.fresh {w0 w w' : World} {S : Nat → Prop} (h : Kp w0 w) (c : Chg S w w') (hS : ∀ k, S k → w0.heap.size ≤ k) : Kp w0 w' := by
  intro b o v hv
  rcases h b o v hv with h1 | h1
  · left
    have hb := World.block_lt_of_cell? _ _ hv
    rw [World.cell?_of_block (w := w) (c.block b (World.block_lt_of_cell? _ _ h1) fun hs => by have := hS b hs; simp only at hb; omega)]
    exact h1
  · exact .inr h1
/-- One cell of a block is another one. -/
theorem Kp.set {w : World} {g j : Nat} {u : Value} (h : ∀ v, w.cell? ⟨g, j, none⟩ = some v → ((∃ k, v = .int .i64 k) ∧ ∀ o' s, j = o' + 1 → w.cell? ⟨g, o', none⟩ ≠ some (.string s)) ∨ ((∃ a n c, v = .slice a n c) ∧ ∀ o' s, j = o' + 3 → w.cell? ⟨g, o', none⟩ ≠ some (.string s))) : Kp w (w.setCell ⟨g, j, none⟩ u) := by
  intro b o v hv
  by_cases hb : b = g
  · subst hb
    by_cases ho : o = j
    · subst ho
      exact .inr (h v hv)
    · left
      rw [World.cell?_setCell_other _ _ _ _ (by simp)]
      exact hv
  · left
    rw [World.cell?_setCell_other _ _ _ _ (by simp)]
    exact hv
/-- What a buffer's call leaves as it was. -/
structure Cp (S : Nat → Prop) (w w' : World) : Prop where
  chg : Chg S w w'
  kp : Kp w w'
  oth : ∀ g cs ty, BlkAt g ty cs w → ty ≠ 63 → ty ≠ 68 → ty ≠ 22 → BlkAt g ty cs w'
theorem Cp.size {S : Nat → Prop} {w w' : World} (h : Cp S w w') : w.heap.size ≤ w'.heap.size := h.chg.size
theorem Cp.refl (S : Nat → Prop) (w : World) : Cp S w w := ⟨Chg.refl _ _, fun b o v hv => .inl hv, fun _ _ _ h _ _ _ => h⟩
theorem Cp.trans {S : Nat → Prop} {a b c : World} (h : Cp S a b) (k : Cp S b c) : Cp S a c := ⟨h.chg.trans k.chg, h.kp.trans k.kp, fun g cs ty hb h1 h2 h3 => k.oth g cs ty (h.oth g cs ty hb h1 h2 h3) h1 h2 h3⟩
theorem Cp.of_below {S : Nat → Prop} {w w' : World} (h : Below w.heap.size w w') : Cp S w w' := ⟨Chg.of_below h, Kp.of_below h, fun _ _ _ hb _ _ _ => hb.kept h⟩
theorem Cp.below {S : Nat → Prop} {w0 w w' : World} (h : Cp S w0 w) (hb : Below w.heap.size w w') : Cp S w0 w' := h.trans (Cp.of_below hb)
theorem Cp.mono {S T : Nat → Prop} {a b : World} (h : Cp S a b) (hS : ∀ k, k < a.heap.size → S k → T k) : Cp T a b := ⟨h.chg.mono hS, h.kp, h.oth⟩
theorem Cp.fresh {S T : Nat → Prop} {w0 w w' : World} (h : Cp S w0 w) (c : Chg T w w') (hT : ∀ k, T k → w0.heap.size ≤ k ∧ S k) : Cp S w0 w' :=
  ⟨h.chg.trans (c.mono fun k _ hk => (hT k hk).2), h.kp.fresh c fun k hk => (hT k hk).1, fun g cs ty hb h1 h2 h3 => (h.oth g cs ty hb h1 h2 h3).chg c fun hk => by have := (hT g hk).1; have := hb.lt; omega⟩
theorem Cp.set {w : World} {g j : Nat} {u : Value} {ty : TypeId} {cs : List Value} (hb : BlkAt g ty cs w) (ht : ty = 63 ∨ ty = 68 ∨ ty = 22)
    (h : ∀ v, cs[j]? = some v → ((∃ k, v = .int .i64 k) ∧ ∀ o' s, j = o' + 1 → cs[o']? ≠ some (.string s)) ∨ ((∃ a n c, v = .slice a n c) ∧ ∀ o' s, j = o' + 3 → cs[o']? ≠ some (.string s))) : Cp (fun k => k = g) w (w.setCell ⟨g, j, none⟩ u) := by
  refine ⟨Chg.of_wrote (Wrote.set g j w u), Kp.set fun v hv => ?_, fun g' cs' ty' hb' h1 h2 h3 => hb'.chg (Chg.of_wrote (Wrote.set g j w u)) ?_⟩
  · rw [hb.cell] at hv
    rcases h v hv with ⟨h1, h2⟩ | ⟨h1, h2⟩
    · exact .inl ⟨h1, fun o' s ho => by rw [hb.cell]; exact h2 o' s ho⟩
    · exact .inr ⟨h1, fun o' s ho => by rw [hb.cell]; exact h2 o' s ho⟩
  · refine blk_ne hb' hb ?_
    rcases ht with rfl | rfl | rfl <;> assumption
/-- The list in a buffer is another one. -/
theorem Cp.buf {w : World} {gb : Nat} {bf : Bf} {a : Option Addr} {n c : Nat} {u : Value} (hb : BlkAt gb 63 (buK bf (.slice a n c)) w) : Cp (fun k => k = gb) w (w.setCell ⟨gb, 3, none⟩ u) := by
  refine Cp.set hb (.inl rfl) fun v hv => .inr ⟨⟨a, n, c, ?_⟩, fun o' s ho => ?_⟩
  · exact (Option.some.inj hv).symm
  · obtain rfl : o' = 0 := by omega
    simp [buK]
end Go.Proofs.Ytkljklfejaojaaa
