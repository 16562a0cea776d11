/- A buffer that takes a piece, in memory: contracts of package frag, twelfth part. -/
import Derived.Test.YtkljklfejaojaaaFg19k
namespace Go.Proofs.Ytkljklfejaojaaa
open Go.ChangeShapes Go.WideShapes Go.ChangeAt Go.RowKit
set_option linter.unusedSimpArgs false
set_option linter.unusedVariables false

/-- Bytes do not lie in one of K's blocks. -/
def OutK (K : Nat → Prop) (v : Value) (l : List UInt8) : Prop := ∀ b o n k, v = .slice (some ⟨b, o, none⟩) n k → l ≠ [] → ¬ K b
theorem Rd.chgF {S : Nat → Prop} {w w' : World} {v : Value} {l : List UInt8} (h : Rd w v l) (c : Chg S w w') (hS : OutK S v l) : Rd w' v l := by
  obtain ⟨a, k, e1, h2, h3, h4, h5⟩ := h
  by_cases hl : l = []
  · exact ⟨a, k, e1, h2, h3, h4, .inl hl⟩
  · refine ⟨a, k, e1, h2, h3, h4, .inr ?_⟩
    rcases h5 with h5 | ⟨b, off, e2, hc⟩
    · exact absurd h5 hl
    · refine ⟨b, off, e2, fun i hi => ?_⟩
      have h6 := hc i hi
      subst e2
      rw [World.cell?_of_block (w := w) (c.block b (World.block_lt_of_cell? _ _ h6) (hS b off _ _ e1 hl))]
      exact h6
theorem OutK.mono {K S : Nat → Prop} {v : Value} {l : List UInt8} (h : OutK K v l) (hS : ∀ k, S k → K k) : OutK S v l := fun b o n k e hl hs => h b o n k e hl (hS b hs)
theorem OutK.own {K : Nat → Prop} {w : World} {base n : Nat} {e : TypeId} {v : Value} {l : List UInt8} {xs : List Value} (h : w.ownsRow base e 1 v n xs) (hK : ∀ g, v.ownBlock = some g → ¬ K g) : OutK K v l := by
  intro b o m k e1 hl
  rcases h.2 with ⟨e2, _⟩ | ⟨g', cap', cur, e2, _⟩
  · rw [e2] at e1
    simp at e1
  · rw [e2] at e1
    simp only [Value.slice.injEq, Option.some.injEq, Addr.mk.injEq, and_true] at e1
    obtain ⟨⟨rfl, rfl⟩, rfl, rfl⟩ := e1
    exact hK g' (by rw [e2]; rfl)
/-- What adG is, by what is left. -/
theorem adG_rm (b : Bf) (p : List UInt8) (m : Int) (part parts : Nat) (body : List UInt8) (now : Nat) : adG b p m part parts body now = match rmL b p m body.length with
    | none => (b, [], 42)
    | some l2 =>
      let l3 := if fdN p m l2 < l2.length then l2 else l2 ++ [⟨p, m, now, List.replicate parts []⟩]
      let k := fdN p m l2
      let e := inE (l3.getD k noE) part body
      if fuB e.parts = true then (⟨b.pm, b.am, b.age, (l3.set k e).eraseIdx k⟩, e.parts.flatten, 0)
      else (⟨b.pm, b.am, b.age, l3.set k e⟩, [], 0) := by
  unfold adG rmL
  cases evL b.pm p m body.length b.l.length b.l with
  | none => rfl
  | some l2 =>
    simp only
    by_cases h : b.am < ((ttB l2 : Nat) : Int) + (body.length : Int)
    · rw [if_pos h, if_pos h]
    · rw [if_neg h, if_neg h]
theorem own_neO {w : World} {base base' sz sz' n n' : Nat} {e e' : TypeId} {v v' : Value} {xs xs' : List Value} (h : w.ownsRow base e sz v n xs) (h' : w.ownsRow base' e' sz' v' n' xs') (hne : e ≠ e') : ∀ b, v.ownBlock = some b → v'.ownBlock ≠ some b := by
  intro b hb hb'
  rcases h.2 with ⟨rfl, _⟩ | ⟨g, cap, cur, rfl, _, hg, _⟩
  · simp [Value.ownBlock] at hb
  · rcases h'.2 with ⟨rfl, _⟩ | ⟨g', cap', cur', rfl, _, hg', _⟩
    · simp [Value.ownBlock] at hb'
    · have e1 : g = b := by simpa [Value.ownBlock] using hb
      have e2 : g' = b := by simpa [Value.ownBlock] using hb'
      subst e1 e2
      rw [hg] at hg'
      simp at hg'
      exact hne hg'.2
/-- The list of entries has changed. -/
theorem EyP.pastO {K : Nat → Prop} {w w' : World} {x : Ey} {vs : List Value} {base n : Nat} {v : Value} {cs : List Value} (h : EyP K w x vs) (ho : w.ownsRow base 66 1 v n cs) (c : Chg (fun b => some b = v.ownBlock) w w') : EyP K w' x vs :=
  ⟨h.blk.chg c fun e => own_neF ho h.blk (by decide) _ e.symm rfl, h.kg, h.kb, h.row.chg c fun e => own_neF ho h.row (by decide) _ e.symm rfl, h.len, fun i u hu =>
    ⟨own_chgG (h.pcs i u hu).1 c fun g hg e => own_neO ho (h.pcs i u hu).1 (by decide) g e.symm hg, (h.pcs i u hu).2⟩⟩
theorem pvs_set (ys : List Ey) (k : Nat) (y : Ey) (hg : y.g = (ys.getD k noY).g) (hk : k < ys.length) : pvs (ys.set k y) = pvs ys := by
  unfold pvs
  rw [List.map_set]
  refine List.ext_getElem (by simp) fun i h1 h2 => ?_
  rw [List.getElem_set]
  by_cases e : k = i
  · subst e
    rw [if_pos rfl, List.getElem_map, hg]
    simp [hk]
  · rw [if_neg e]
theorem DsP.at {ys : List Ey} (h : DsP ys) {i j : Nat} (hi : i < ys.length) (hj : j < ys.length) (hne : i ≠ j) : (ys.getD i noY).g ≠ (ys.getD j noY).g ∧ (ys.getD i noY).b ≠ (ys.getD j noY).b := by
  have h2 := List.pairwise_iff_getElem.1 h
  have e1 : ys.getD i noY = ys[i] := by simp [hi]
  have e2 : ys.getD j noY = ys[j] := by simp [hj]
  rw [e1, e2]
  rcases Nat.lt_or_gt_of_ne hne with hlt | hlt
  · exact h2 i j hi hj hlt
  · have := h2 j i hj hi hlt
    exact ⟨Ne.symm this.1, Ne.symm this.2⟩
theorem DsP.set {ys : List Ey} (h : DsP ys) {k : Nat} {y : Ey} (hk : k < ys.length) (hg : y.g = (ys.getD k noY).g) (hb : y.b = (ys.getD k noY).b) : DsP (ys.set k y) := by
  refine List.pairwise_iff_getElem.2 fun i j hi hj hij => ?_
  simp only [List.length_set] at hi hj
  have ek : ys.getD k noY = ys[k] := by simp [hk]
  rw [ek] at hg hb
  have h2 := List.pairwise_iff_getElem.1 h i j hi hj hij
  rw [List.getElem_set, List.getElem_set]
  by_cases e1 : k = i
  · subst e1
    rw [if_pos rfl, if_neg (by omega), hg, hb]
    exact h2
  · rw [if_neg e1]
    by_cases e2 : k = j
    · subst e2
      rw [if_pos rfl, hg, hb]
      exact h2
    · rw [if_neg e2]
      exact h2
/-- A piece was put into an entry of the list. -/
theorem BuX.put {K : Nat → Prop} {w w' : World} {gb : Nat} {ve : Value} {bf : Bf} {ys : List Ey} (h : BuX K w gb ve bf ys) {k : Nat} (hk : k < ys.length) {e' : Ent} {vs' : List Value}
    (hy : EyP K w' ⟨(ys.getD k noY).g, (ys.getD k noY).b, e'⟩ vs') (c : Chg (fun i => i = (ys.getD k noY).g ∨ i = (ys.getD k noY).b) w w') : BuX K w' gb ve ⟨bf.pm, bf.am, bf.age, bf.l.set k e'⟩ (ys.set k ⟨(ys.getD k noY).g, (ys.getD k noY).b, e'⟩) := by
  obtain ⟨vs, hv⟩ := h.ent _ (ey_mem hk)
  refine ⟨by rw [h.l, List.map_set], h.blk.chg c ?_, h.kb, ?_, h.kr, fun z hz => ?_, h.dist.set hk rfl rfl⟩
  · rintro (e | e)
    · exact blk_ne h.blk hv.blk (by decide) e
    · exact blk_ne h.blk hv.row (by decide) e
  · rw [pvs_set _ _ _ (by rfl) hk, List.length_set]
    refine own_chgG h.row c fun g hg => ?_
    rintro (e | e)
    · exact own_neF h.row hv.blk (by decide) g hg e
    · exact own_neF h.row hv.row (by decide) g hg e
  · obtain ⟨j, hj, rfl⟩ := List.getElem_of_mem hz
    rw [List.length_set] at hj
    rw [List.getElem_set]
    by_cases e : k = j
    · rw [if_pos e]
      exact ⟨vs', hy⟩
    · rw [if_neg e]
      have hd := h.dist.at hj hk (fun e1 => e e1.symm)
      have ej : ys.getD j noY = ys[j] := by simp [hj]
      rw [ej] at hd
      obtain ⟨us, hu⟩ := h.ent ys[j] (List.getElem_mem hj)
      refine ⟨us, hu.blk.chg c ?_, hu.kg, hu.kb, hu.row.chg c ?_, hu.len, fun i u hiu => ⟨own_chgG (hu.pcs i u hiu).1 c fun g hg => ?_, (hu.pcs i u hiu).2⟩⟩
      · rintro (e2 | e2)
        · exact hd.1 e2
        · exact blk_ne hu.blk hv.row (by decide) e2
      · rintro (e2 | e2)
        · exact blk_ne hu.row hv.blk (by decide) e2
        · exact hd.2 e2
      · rintro (e2 | e2)
        · exact own_neF (hu.pcs i u hiu).1 hv.blk (by decide) g hg e2
        · exact own_neF (hu.pcs i u hiu).1 hv.row (by decide) g hg e2
/-- An entry was appended to the list. -/
theorem BuX.grow {K : Nat → Prop} {w w0 : World} {gb : Nat} {vl v' : Value} {bf : Bf} {ys : List Ey} {y : Ey} {vs : List Value} (h : BuX K w0 gb vl bf ys) (hb0 : Below w0.heap.size w0 w) {w1 : World} (hc : Chg (fun b => some b = vl.ownBlock) w w1) (hy : EyP K w y vs) (hds : DsP (ys ++ [y]))
    (ho : w1.ownsRow 0 66 1 v' (ys.length + 1) (pvs ys ++ [pV y.g])) (hk : ∀ g, v'.ownBlock = some g → K g) : BuX K (w1.setCell ⟨gb, 3, none⟩ v') gb v' ⟨bf.pm, bf.am, bf.age, bf.l ++ [y.e]⟩ (ys ++ [y]) := by
  have hX := h.kept hb0
  have hblk : BlkAt gb 63 (buK bf vl) w1 := hX.blk.chg hc fun e => own_neF hX.row hX.blk (by decide) _ e.symm rfl
  have c2 : Chg (fun b => b = gb) w1 (w1.setCell ⟨gb, 3, none⟩ v') := Chg.of_wrote (Wrote.set gb 3 w1 v')
  have hpv : pvs (ys ++ [y]) = pvs ys ++ [pV y.g] := by simp [pvs]
  have hent : ∀ z us, EyP K w z us → EyP K (w1.setCell ⟨gb, 3, none⟩ v') z us := fun z us hz =>
    have hz1 := hz.pastO hX.row hc
    hz1.past hblk (blk_ne hz1.blk hblk (by decide)) (blk_ne hz1.row hblk (by decide)) (by decide) c2
  refine ⟨by rw [h.l]; simp, hblk.set 3 v', h.kb, ?_, hk, fun z hz => ?_, ?_⟩
  · rw [hpv, List.length_append, List.length_singleton]
    exact own_chgG ho c2 fun g hg => own_neF ho hblk (by decide) g hg
  · rcases List.mem_append.1 hz with hz | hz
    · obtain ⟨us, hu⟩ := hX.ent z hz
      exact ⟨us, hent z us hu⟩
    · obtain rfl := List.mem_singleton.1 hz
      exact ⟨vs, hent _ vs hy⟩
  · exact hds
theorem DsP.grow {K : Nat → Prop} {w : World} {gb : Nat} {vl : Value} {bf : Bf} {ys : List Ey} {y : Ey} (h : BuX K w gb vl bf ys) (hg : w.heap.size ≤ y.g) (hb : w.heap.size ≤ y.b) : DsP (ys ++ [y]) := by
  refine List.pairwise_append.2 ⟨h.dist, List.pairwise_singleton .., fun a ha b hb' => ?_⟩
  obtain rfl := List.mem_singleton.1 hb'
  obtain ⟨us, hu⟩ := h.ent a ha
  exact ⟨fun e => by have := hu.blk.lt; omega, fun e => by have := hu.row.lt; omega⟩
/-- A variable that holds an entry's place is changed. -/
theorem BuX.past {K : Nat → Prop} {w w' : World} {gb g16 : Nat} {vl : Value} {bf : Bf} {ys : List Ey} {cs : List Value} (h : BuX K w gb vl bf ys) (hb : BlkAt g16 66 cs w) (hv : ∀ b, vl.ownBlock = some b → b ≠ g16) (c : Chg (fun b => b = g16) w w') : BuX K w' gb vl bf ys := by
  refine ⟨h.l, h.blk.chg c (blk_ne h.blk hb (by decide)), h.kb, own_chgG h.row c hv, h.kr, fun z hz => ?_, h.dist⟩
  obtain ⟨us, hu⟩ := h.ent z hz
  exact ⟨us, hu.past hb (blk_ne hu.blk hb (by decide)) (blk_ne hu.row hb (by decide)) (by decide) c⟩
theorem newsF {w : World} {e : TypeId} (u : Value) {b : Nat} (hb : b = w.heap.size) : (w.alloc (.cells #[u] e)).cell? ((⟨b, 0, none⟩ : Addr).add 0) = some u := by
  subst hb
  have h := (BlkAt.fresh (w := w) (ty := e) (cs := [u]) rfl rfl).cell 0
  have hp : (⟨w.heap.size, 0, none⟩ : Addr).add 0 = ⟨w.heap.size, 0, none⟩ := rfl
  rw [hp, h]
  rfl
/-- A pointer is appended to a list of one's own. -/
theorem wp_append_ptr {w : World} {o : Oper} {a : Act} {K : Act → World → Prop} {Q : Exit → Act → World → Prop} (s x : Operand) (ho : o.op = .call { callee := .builtin .append, args := #[s, x], argTypes := #[61, 61] })
    (v : Value) (n : Nat) (xs : List Value) (hs : a.eval s = v) (hO : w.ownsRow 0 66 1 v n xs) (ad : Addr) (u : Value) (hx : a.eval x = .slice (some ad) 1 1) (hu : w.cell? (ad.add 0) = some u) (h1 : u.oneCell' = true) (hn : n ≤ 1000000)
    (h : ∀ v' w', w'.ownsRow 0 66 1 v' (n + 1) (xs ++ [u]) → w.grownBy w' v.ownBlock → Near w v v' → K (a.put o.dst v') w') : o.wp Try.prog a w K Q := by
  obtain ⟨i, hi, hz, hsz, hby⟩ := infoEP
  have hnews : ∀ j u', [u][j]? = some u' → w.cell? (ad.add j) = some u' := by
    intro j u' hj
    match j with
    | 0 =>
      obtain rfl : u = u' := by simpa using hj
      exact hu
    | j + 1 => simp at hj
  have hone : ∀ u' ∈ [u], u'.oneCell' = true := fun u' hu' => by rw [List.mem_singleton.1 hu']; exact h1
  obtain ⟨v', w', hr, r2, r3, r4⟩ := run_append_own (P := Try.prog) w 0 61 o.type 66 i _ 1 8 Try.underlying61 hi hz hsz hby rfl (by decide) v n xs hO ad 1 1 [u] rfl hnews hone (by unfold maxLen; omega) (by omega) (Nat.zero_le _)
  have hnear := append_nearG w 0 61 o.type 66 i _ 1 8 Try.underlying61 hi hz hsz hby v n xs hO ad 1 1 [u] rfl hnews hone (by unfold maxLen; omega) (by omega) v' w' hr r4
  unfold Oper.wp execOp
  simp only [ho, resolve, invoke, builtin, Sem.run_bind, Sem.run_pure, Result.andThen_ok, List.map_toArray, List.map_cons, List.map_nil, hs, hx, hr]
  exact h v' w' r2 r3 hnear
theorem fitB_false {e : Ent} {i n : Nat} {body : List UInt8} : fitB e i n body = false ↔ (e.parts.length ≠ n ∨ (e.parts.getD i [] ≠ [] ∧ e.parts.getD i [] ≠ body)) := by
  unfold fitB hasB
  generalize e.parts.getD i [] = x
  generalize e.parts.length = L
  by_cases h1 : L = n
  · cases x with
    | nil => simp [h1]
    | cons a t => simp [h1]
  · simp [h1]
theorem hasB_iff {e : Ent} {i : Nat} : hasB e i = true ↔ e.parts.getD i [] ≠ [] := by
  unfold hasB
  rw [decide_eq_true_eq, List.length_pos_iff]
theorem EyP.rdL {K : Nat → Prop} {w : World} {x : Ey} {vs : List Value} (h : EyP K w x vs) (hl : x.e.parts.length ≤ 1000000) : RdL w (.slice (some ⟨x.b, 0, none⟩) x.e.parts.length x.e.parts.length) vs x.e.parts := by
  refine ⟨⟨_, _, by rw [h.len], by rw [h.len]; exact Nat.le_refl _, by unfold maxLen; omega, .inr ⟨x.b, 0, rfl, fun i hi => ?_⟩⟩, h.len, fun i hi => ?_⟩
  · rw [Nat.zero_add, h.row.cell]
    simp [hi]
  · have hv : vs[i]? = some vs[i] := by simp [hi]
    have := Rd.of_row (h.pcs i _ hv).1
    simpa [hi] using this
end Go.Proofs.Ytkljklfejaojaaa
