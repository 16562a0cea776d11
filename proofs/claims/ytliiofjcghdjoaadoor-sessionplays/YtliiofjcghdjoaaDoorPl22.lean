/- What stands behind the law of plays while it runs: two sessions of the program, two of the document, what was sent. -/
import Derived.Test.YtliiofjcghdjoaaDoorBd22
import Derived.Test.YtliiofjcghdjoaaDoorRu22
import Derived.Test.YtliiofjcghdjoaaDoorRft
namespace Go.Proofs.YtliiofjcghdjoaaDoor
open Go.ChangeShapes Go.WideShapes Go.ChangeAt Go.RowKit
set_option linter.unusedSimpArgs false
set_option linter.unusedVariables false

theorem RdI.chg22 {k : IntKind} {w w' : World} {S : Nat → Prop} {v : Value} {l : List Int} (h : RdI k w v l) (c : Chg S w w') (hS : ∀ b, v.ownBlock = some b → ¬ S b) : RdI k w' v l := by
  obtain ⟨a, cap, rfl, h2, h3, h4, h5⟩ := h
  refine ⟨a, cap, rfl, h2, h3, h4, h5.imp id ?_⟩
  rintro ⟨b, off, rfl, hc⟩
  refine ⟨b, off, rfl, fun i hi => ?_⟩
  have h6 := hc i hi
  rw [World.cell?_of_block (w := w) (c.block b (World.block_lt_of_cell? _ _ h6) (hS b rfl))]
  exact h6
/-- Numbers that lie apart from all that is written. -/
structure Apx (gk go gS : Nat) (vn vb v : Value) (w : World) : Prop where
  all : ∀ b, v.ownBlock = some b → b ≠ gk ∧ b ≠ go ∧ b ≠ gS ∧ vn.ownBlock ≠ some b ∧ vb.ownBlock ≠ some b ∧ b < w.heap.size
theorem Apx.grow {gk go gS : Nat} {vn vb v : Value} {w w' : World} (h : Apx gk go gS vn vb v w) (hs : w.heap.size ≤ w'.heap.size) : Apx gk go gS vn vb v w' := ⟨fun b hb => by obtain ⟨h1, h2, h3, h4, h5, h6⟩ := h.all b hb; exact ⟨h1, h2, h3, h4, h5, by omega⟩⟩
theorem Apx.swap {gk go gS : Nat} {vn vb v : Value} {w : World} (h : Apx gk go gS vn vb v w) : Apx go gk gS vn vb v w := ⟨fun b hb => by obtain ⟨h1, h2, h3, h4, h5, h6⟩ := h.all b hb; exact ⟨h2, h1, h3, h4, h5, h6⟩⟩
def ptr22 (g : Nat) : Value := .pointer (some ⟨g, 0, none⟩)
def arX (k gk go : Nat) : List Value := if k = 0 then [ptr22 gk, ptr22 go] else [ptr22 go, ptr22 gk]
def preS (k : Nat) (so : Ses) (u1 u2 u3 : Value) : List Value := if k = 0 then [] else ssC so u1 u2 u3
def postS (k : Nat) (so : Ses) (u1 u2 u3 : Value) : List Value := if k = 0 then ssC so u1 u2 u3 else []
def arS (k : Nat) (sd so : Ses) (v1 v2 v3 u1 u2 u3 : Value) : List Value := preS k so u1 u2 u3 ++ ssC sd v1 v2 v3 ++ postS k so u1 u2 u3
def nW (ns : List Nat) : List Value := ns.map fun n => Value.int .u64 ((n : Nat) : Int)
theorem nW_8 (ns : List Nat) : ∀ y ∈ nW ns, ∀ k, y ≠ .int .u8 k := by
  intro y hy k e
  obtain ⟨j, -, rfl⟩ := List.mem_map.1 hy
  cases e
theorem ssC_8 {w : World} {s : Ses} {v1 v2 v3 : Value} (h : SsR w s v1 v2 v3) : ∀ y ∈ ssC s v1 v2 v3, ∀ x, y ≠ .int .u8 x := by
  obtain ⟨a1, c1, rfl, -⟩ := h.snd
  obtain ⟨a2, c2, rfl, -⟩ := h.rcv
  obtain ⟨a3, c3, rfl, -⟩ := h.came
  intro v hv x
  simp only [ssC, List.mem_cons, List.not_mem_nil, or_false] at hv
  rcases hv with rfl | rfl | rfl | rfl | rfl | rfl | rfl <;> simp
theorem arS_8 {w : World} {k : Nat} {sd so : Ses} {v1 v2 v3 u1 u2 u3 : Value} (h : SsR w sd v1 v2 v3) (h2 : SsR w so u1 u2 u3) : No8 (arS k sd so v1 v2 v3 u1 u2 u3) := No8.of_slices (by
  intro v hv x
  unfold arS preS postS at hv
  split at hv
  · simp only [List.nil_append, List.mem_append] at hv
    rcases hv with hv | hv
    · exact ssC_8 h v hv x
    · exact ssC_8 h2 v hv x
  · simp only [List.append_nil, List.mem_append] at hv
    rcases hv with hv | hv
    · exact ssC_8 h2 v hv x
    · exact ssC_8 h v hv x)
theorem SsR.k8 {w w' : World} {S : Nat → Prop} {s : Ses} {v1 v2 v3 : Value} (h : SsR w s v1 v2 v3) (k : K8 w w') (c : Chg S w w') (hS : ∀ b, v3.ownBlock = some b → ¬ S b) : SsR w' s v1 v2 v3 := ⟨h.snd.k8 k, h.rcv.k8 k, h.came.chg22 c hS⟩

structure PlX (w0 : World) (gR gX gS k gk go : Nat) (r : Rl) (sp sd so : Ses) (v1 v2 v3 u1 u2 u3 vn vb : Value) (ns : List Nat) (bs : List Value) (L : Nat) (w : World) : Prop where
  rul : BlkAt gR 27 (rlC r) w
  arx : BlkAt gX 47 (arX k gk go) w
  ars : BlkAt gS 51 (arS k sd so v1 v2 v3 u1 u2 u3) w
  mine : SnP gk r sp w
  other : SnP go r so w
  doc : SsR w sd v1 v2 v3
  dother : SsR w so u1 u2 u3
  num : Zr 22 (.int .u64 0) w0.heap.size vn (nW ns) w
  box : Zr 40 (.slice none 0 0) w0.heap.size vb bs w
  nlt : ∀ n ∈ ns, n < 18446744073709551616
  row : ∀ j, j < bs.length → ∃ l : List UInt8, l.length ≤ 3000000 ∧ (∃ a c, bs.getD j undef = .slice a l.length c) ∧ Rd w (bs.getD j undef) l
  f8 : ∀ y ∈ bs, ∀ k, y ≠ .int .u8 k
  ap : Apx gk go gS vn vb v3 w
  apo : Apx gk go gS vn vb u3 w
  dok : SesW sd
  lim : sd.came.length ≤ L ∧ so.came.length ≤ L
  below : Below w0.heap.size w0 w
  ne : gk ≠ go ∧ w0.heap.size ≤ gS ∧ w0.heap.size ≤ gk ∧ w0.heap.size ≤ go

section
variable {w0 w w' : World} {gR gX gS k gk go : Nat} {r : Rl} {sp sd so : Ses} {v1 v2 v3 u1 u2 u3 vn vb : Value} {ns : List Nat} {bs : List Value} {L : Nat}
theorem PlX.kept (h : PlX w0 gR gX gS k gk go r sp sd so v1 v2 v3 u1 u2 u3 vn vb ns bs L w) (hb : Below w.heap.size w w') : PlX w0 gR gX gS k gk go r sp sd so v1 v2 v3 u1 u2 u3 vn vb ns bs L w' :=
  ⟨h.rul.kept hb, h.arx.kept hb, h.ars.kept hb, h.mine.kept hb, h.other.kept hb, h.doc.kept hb, h.dother.kept hb, h.num.kept hb, h.box.kept hb, h.nlt, fun j hj => by obtain ⟨l, h1, h2, h3⟩ := h.row j hj; exact ⟨l, h1, h2, h3.kept hb⟩, h.f8, h.ap.grow hb.size, h.apo.grow hb.size, h.dok, h.lim, stepB h.below hb, h.ne⟩
theorem blk_ne22 {g g' : Nat} {ty ty' : TypeId} {cs cs' : List Value} {w : World} (h : BlkAt g ty cs w) (h' : BlkAt g' ty' cs' w) (hne : ty ≠ ty') : ¬ g = g' := by
  rintro rfl
  unfold BlkAt at h h'
  rw [h] at h'
  simp at h'
  exact hne h'.2
/-- The other one's turn. -/
theorem PlX.swap (h : PlX w0 gR gX gS 0 gk go r sp sp so v1 v2 v3 u1 u2 u3 vn vb ns bs L w) : PlX w0 gR gX gS 1 go gk r so so sp u1 u2 u3 v1 v2 v3 vn vb ns bs L w :=
  ⟨h.rul, h.arx, by have h1 := h.ars; unfold arS preS postS at h1 ⊢; simpa using h1, h.other, h.mine, h.dother, h.doc, h.num, h.box, h.nlt, h.row, h.f8, h.apo.swap, h.ap.swap, h.other.ok, ⟨h.lim.2, h.lim.1⟩, h.below, fun e => h.ne.1 e.symm, h.ne.2.1, h.ne.2.2.2, h.ne.2.2.1⟩
theorem PlX.back (h : PlX w0 gR gX gS 1 gk go r sp sp so v1 v2 v3 u1 u2 u3 vn vb ns bs L w) : PlX w0 gR gX gS 0 go gk r so so sp u1 u2 u3 v1 v2 v3 vn vb ns bs L w :=
  ⟨h.rul, h.arx, by have h1 := h.ars; unfold arS preS postS at h1 ⊢; simpa using h1, h.other, h.mine, h.dother, h.doc, h.num, h.box, h.nlt, h.row, h.f8, h.apo.swap, h.ap.swap, h.other.ok, ⟨h.lim.2, h.lim.1⟩, h.below, fun e => h.ne.1 e.symm, h.ne.2.1, h.ne.2.2.2, h.ne.2.2.1⟩
/-- The program's session has changed. -/
theorem PlX.prog (h : PlX w0 gR gX gS k gk go r sp sd so v1 v2 v3 u1 u2 u3 vn vb ns bs L w) (c : Chg (fun b => b = gk) w w') {sp' : Ses} (hs : SnP gk r sp' w') : PlX w0 gR gX gS k gk go r sp' sd so v1 v2 v3 u1 u2 u3 vn vb ns bs L w' := by
  have k8 := h.mine.k8 c
  obtain ⟨cm, hcm, -⟩ := h.mine.blk
  exact ⟨h.rul.chg c (blk_ne22 h.rul hcm (by decide)), h.arx.chg c (blk_ne22 h.arx hcm (by decide)), h.ars.chg c (blk_ne22 h.ars hcm (by decide)), hs, h.other.other c (fun e => h.ne.1 e.symm) k8, h.doc.k8 k8 c (fun b hb e => (h.ap.all b hb).1 e), h.dother.k8 k8 c (fun b hb e => (h.apo.all b hb).1 e), h.num.ses (by decide) h.mine c, h.box.ses (by decide) h.mine c, h.nlt,
    fun j hj => by obtain ⟨l, h1, h2, h3⟩ := h.row j hj; exact ⟨l, h1, h2, h3.k8 k8⟩, h.f8, h.ap.grow c.size, h.apo.grow c.size, h.dok, h.lim, Chg.gone h.below c h.below.size h.ne.2.2.1, h.ne⟩
/-- The document's has. -/
theorem PlX.docs (h : PlX w0 gR gX gS k gk go r sp sd so v1 v2 v3 u1 u2 u3 vn vb ns bs L w) (c : Chg (fun b => b = gS) w w') {sd' : Ses} {v3' : Value} (hb : BlkAt gS 51 (arS k sd' so v1 v2 v3' u1 u2 u3) w') (hd : SsR w sd' v1 v2 v3') (ha : Apx gk go gS vn vb v3' w) (hok : SesW sd') {L' : Nat} (hl : sd'.came.length ≤ L') (hL : L ≤ L') :
    PlX w0 gR gX gS k gk go r sp sd' so v1 v2 v3' u1 u2 u3 vn vb ns bs L' w' := by
  have k8 := K8.blk h.ars (arS_8 h.doc h.dother) c
  obtain ⟨cm, hcm, -⟩ := h.mine.blk
  obtain ⟨co, hco, -⟩ := h.other.blk
  exact ⟨h.rul.chg c (blk_ne22 h.rul h.ars (by decide)), h.arx.chg c (blk_ne22 h.arx h.ars (by decide)), hb, h.mine.other c (blk_ne22 hcm h.ars (by decide)) k8, h.other.other c (blk_ne22 hco h.ars (by decide)) k8, hd.k8 k8 c (fun b hb e => (ha.all b hb).2.2.1 e), h.dother.k8 k8 c (fun b hb e => (h.apo.all b hb).2.2.1 e), h.num.chg c (fun b hb' e => h.num.ne h.ars (by decide) b hb' e), h.box.chg c (fun b hb' e => h.box.ne h.ars (by decide) b hb' e), h.nlt,
    fun j hj => by obtain ⟨l, h1, h2, h3⟩ := h.row j hj; exact ⟨l, h1, h2, h3.k8 k8⟩, h.f8, ha.grow c.size, h.apo.grow c.size, hok, ⟨hl, Nat.le_trans h.lim.2 hL⟩, Chg.gone h.below c h.below.size h.ne.2.1, h.ne⟩
theorem Apx.row {v vz vn' vb' : Value} (h : Apx gk go gS vn vb v w) (hs : w.heap.size ≤ w'.heap.size) (h1 : vn'.ownBlock = vn.ownBlock ∨ ∀ b, vn'.ownBlock = some b → w.heap.size ≤ b) (h2 : vb'.ownBlock = vb.ownBlock ∨ ∀ b, vb'.ownBlock = some b → w.heap.size ≤ b) : Apx gk go gS vn' vb' v w' := ⟨fun b hb => by
  obtain ⟨e1, e2, e3, e4, e5, e6⟩ := h.all b hb
  refine ⟨e1, e2, e3, fun e => ?_, fun e => ?_, by omega⟩
  · rcases h1 with h1 | h1
    · exact e4 (by rw [← h1]; exact e)
    · have := h1 b e; omega
  · rcases h2 with h2 | h2
    · exact e5 (by rw [← h2]; exact e)
    · have := h2 b e; omega⟩
/-- A number more. -/
theorem PlX.numb (h : PlX w0 gR gX gS k gk go r sp sd so v1 v2 v3 u1 u2 u3 vn vb ns bs L w) {vn' : Value} {n : Nat} (hn : n < 18446744073709551616) (hz : Zr 22 (.int .u64 0) w0.heap.size vn' (nW ns ++ [.int .u64 (n : Int)]) w') (c : Chg (fun b => some b = vn.ownBlock) w w') (k8 : K8 w w') (hv : vn'.ownBlock = vn.ownBlock ∨ ∀ b, vn'.ownBlock = some b → w.heap.size ≤ b) :
    PlX w0 gR gX gS k gk go r sp sd so v1 v2 v3 u1 u2 u3 vn' vb (ns ++ [n]) bs L w' :=
  ⟨h.rul.chg c (row_ne h.num h.rul (by decide)), h.arx.chg c (row_ne h.num h.arx (by decide)), h.ars.chg c (row_ne h.num h.ars (by decide)), h.mine.row (by decide) h.num c k8, h.other.row (by decide) h.num c k8, h.doc.k8 k8 c (fun b hb e => (h.ap.all b hb).2.2.2.1 e.symm), h.dother.k8 k8 c (fun b hb e => (h.apo.all b hb).2.2.2.1 e.symm), by unfold nW at hz ⊢; rw [List.map_append]; exact hz, h.box.chg c (fun b hb e => h.box.ne2 h.num (by decide) b hb e.symm),
    fun x hx => (List.mem_append.1 hx).elim (h.nlt x) fun h1 => by rw [List.mem_singleton.1 h1]; exact hn, fun j hj => by obtain ⟨l, h1, h2, h3⟩ := h.row j hj; exact ⟨l, h1, h2, h3.k8 k8⟩, h.f8,
    h.ap.row (vz := vn) c.size hv (.inl rfl), h.apo.row (vz := vn) c.size hv (.inl rfl), h.dok, h.lim, c.below h.below h.below.size (fun k _ hk => (h.num.lt k hk.symm).1), h.ne⟩
/-- .. and a box. -/
theorem PlX.boxd (h : PlX w0 gR gX gS k gk go r sp sd so v1 v2 v3 u1 u2 u3 vn vb ns bs L w) {vb' : Value} {a : Option Addr} {N cx : Nat} {l : List UInt8} (hN : N = l.length) (hl : l.length ≤ 3000000) (hr : Rd w (.slice a N cx) l) (hz : Zr 40 (.slice none 0 0) w0.heap.size vb' (bs ++ [.slice a N cx]) w') (c : Chg (fun b => some b = vb.ownBlock) w w') (k8 : K8 w w') (hv : vb'.ownBlock = vb.ownBlock ∨ ∀ b, vb'.ownBlock = some b → w.heap.size ≤ b) :
    PlX w0 gR gX gS k gk go r sp sd so v1 v2 v3 u1 u2 u3 vn vb' ns (bs ++ [.slice a N cx]) L w' := by
  subst hN
  refine ⟨h.rul.chg c (row_ne h.box h.rul (by decide)), h.arx.chg c (row_ne h.box h.arx (by decide)), h.ars.chg c (row_ne h.box h.ars (by decide)), h.mine.row (by decide) h.box c k8, h.other.row (by decide) h.box c k8, h.doc.k8 k8 c (fun b hb e => (h.ap.all b hb).2.2.2.2.1 e.symm), h.dother.k8 k8 c (fun b hb e => (h.apo.all b hb).2.2.2.2.1 e.symm), h.num.chg c (fun b hb e => h.num.ne2 h.box (by decide) b hb e.symm), hz, h.nlt, fun j hj => ?_, fun y hy q e => ?_,
    h.ap.row (vz := vn) c.size (.inl rfl) hv, h.apo.row (vz := vn) c.size (.inl rfl) hv, h.dok, h.lim, c.below h.below h.below.size (fun k _ hk => (h.box.lt k hk.symm).1), h.ne⟩
  · by_cases e : j = bs.length
    · subst e
      have e1 : (bs ++ [Value.slice a l.length cx]).getD bs.length undef = .slice a l.length cx := by simp
      rw [e1]
      exact ⟨l, hl, ⟨a, cx, rfl⟩, hr.k8 k8⟩
    · have hj' : j < bs.length + 1 := by simpa using hj
      have e1 : (bs ++ [Value.slice a l.length cx]).getD j undef = bs.getD j undef := by
        simp only [List.getD_eq_getElem?_getD]
        rw [List.getElem?_append_left (by omega)]
      rw [e1]
      obtain ⟨l', h1, h2, h3⟩ := h.row j (by omega)
      exact ⟨l', h1, h2, h3.k8 k8⟩
  · rcases List.mem_append.1 hy with h1 | h1
    · exact h.f8 y h1 q e
    · rw [List.mem_singleton.1 h1] at e
      cases e
end
end Go.Proofs.YtliiofjcghdjoaaDoor
