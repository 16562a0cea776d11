/- Where a row lies behind an append: in its old block, or in a new one; two rows that grow side by side. No program's text is named. -/
import Derived.Test.YtmgkocoemgpgbaaLibI
import Derived.Test.YtmgkocoemgpgbaaLib
namespace Go.Proofs.Ytmgkocoemgpgbaa
open Go.ChangeShapes Go.WideShapes Go.ChangeAt Go.RowKit
set_option linter.unusedSimpArgs false
set_option linter.unusedVariables false

/-- The row v' lies where v lay, or in memory that is new since w. -/
def Near (w : World) (v v' : Value) : Prop := v'.ownBlock = v.ownBlock ∨ ∀ g, v'.ownBlock = some g → w.heap.size ≤ g
theorem append_near {k : IntKind} {P : Program} (wr : World) (base : Nat) (t ty e : TypeId) (i : TypeInfo) (bytes : Nat) (ht : P.underlying t = some (.slice e)) (hi : P.info? e = some i) (hz : i.zero = some (.int k 0)) (hs1 : i.size = 1) (hby : i.bytes = bytes)
    (v : Value) (n : Nat) (xs : List Value) (hown : wr.ownsRow base e 1 v n xs) (ad : Addr) (m c : Nat) (news : List Value) (hl : news.length = m) (hnews : ∀ j u, news[j]? = some u → wr.cell? (ad.add j) = some u) (h1 : ∀ u ∈ news, u.oneCell' = true)
    (h63 : n + m ≤ maxLen) (hbytes : (n + m) * bytes ≤ 140737488355328) (v' : Value) (w' : World) (hr : (Builtin.append_ #[t, t] ty #[v, .slice (some ad) m c]).run P wr = .ok v' w') (hnil : v' = .slice none 0 0 ↔ v = .slice none 0 0 ∧ m = 0) : Near wr v v' := by
  have hsmall : n + m ≤ 9223372036854775807 := by simp only [maxLen] at h63; omega
  rcases hown.2 with ⟨rfl, h0⟩ | ⟨g, cap, cur, rfl, hb, hg, hn, hm, hss, htk⟩
  · subst h0
    by_cases hm0 : m = 0
    · left
      rw [hnil.2 ⟨rfl, hm0⟩]
    · right
      have := run_append_nil (P := P) wr t ty e i _ ht hi hz ad m c news (by rw [hs1]; omega) hnews (by omega) (by omega) (by rw [hby]; rw [Nat.zero_add] at hbytes; omega)
      rw [this] at hr
      simp only [Result.ok.injEq] at hr
      intro g hg
      rw [← hr.1] at hg
      simp only [Value.ownBlock, Option.some.injEq] at hg
      omega
  · have hxs : xs.length = n := by have := hown.1; simpa using this
    by_cases hroom : n + m ≤ cap
    · left
      have := run_append_room (P := P) wr t ty e i ht hi g n cap cur hg ad m c news (by rw [hs1]; omega) hnews h1 hroom (by rw [hs1, hss]; omega)
      rw [this] at hr
      simp only [Result.ok.injEq] at hr
      rw [← hr.1]
      rfl
    · right
      have := run_append_grow (P := P) wr t ty e i _ ht hi hz ⟨g, 0, none⟩ n cap xs (by rw [hs1, hxs, Nat.mul_one]) (fun j u hj => hown.cells rfl j u hj) ad m c news (by rw [hs1]; omega) hnews (by omega) (by omega)
        (by rw [hby]; exact growslice_fits (by omega) hbytes)
      rw [this] at hr
      simp only [Result.ok.injEq] at hr
      intro g' hg'
      rw [← hr.1] at hg'
      simp only [Value.ownBlock, Option.some.injEq] at hg'
      omega
/-- Appending, and where the row lies then. -/
theorem wp_append_near {k : IntKind} {P : Program} {w wr : World} {o : Oper} {a : Act} {K : Act → World → Prop} {Q : Exit → Act → World → Prop} (s x : Operand) (t : TypeId)
    (ho : o.op = .call { callee := .builtin .append, args := #[s, x], argTypes := #[t, t] }) (e : TypeId) (ht : P.underlying t = some (.slice e)) (bytes : Nat)
    (hinfo : (P.info? e).map (fun i => (i.zero, i.size, i.bytes)) = some (some (.int k 0), 1, bytes)) (v : Value) (l : List Int) (hs : a.eval s = v) (hN : NewI k e w v l wr)
    (vx : Value) (l2 : List Int) (hx : a.eval x = vx) (hR : RdI k wr vx l2) (hlen : (l.length + l2.length) * bytes ≤ 140737488355328) (hlen2 : l.length + l2.length ≤ 140737488355328)
    (h : ∀ v' w', NewI k e w v' (l ++ l2) w' → wr.grownBy w' v.ownBlock → Near wr v v' → K (a.put o.dst v') w') : o.wp P a wr K Q := by
  obtain ⟨i, hi, hz0, hz1, hz2⟩ := info_parts hinfo
  obtain ⟨ax, cap, rfl, h2, h3, h4, h5⟩ := hR
  cases ax with
  | none =>
    have h0 := h4 rfl
    subst h0
    have hl2 : l2 = [] := List.eq_nil_of_length_eq_zero (by omega)
    subst hl2
    have hrun := run_append_owned_none (P := P) (w := wr) w.heap.size t o.type e i 1 ht hi v l.length _ hN.1
    have hx' : a.eval x = .slice none 0 0 := hx
    unfold Oper.wp
    simp [execOp, ho, resolve, invoke, builtin, hs, hx', hrun, Result.andThen]
    exact h v wr (by simpa using hN) (World.grownBy.refl _ _) (.inl rfl)
  | some ad =>
    have hcells : ∀ j u, (l2.map (Value.int k))[j]? = some u → wr.cell? (ad.add j) = some u := by
      intro j u hj
      have hjl : j < l2.length := by
        rcases Nat.lt_or_ge j l2.length with h | h
        · exact h
        · simp [List.getElem?_eq_none h] at hj
      rcases h5 with rfl | ⟨b, off, e1, hc⟩
      · simp at hjl
      · simp only [Option.some.injEq] at e1
        subst e1
        have hplain : (⟨b, off, none⟩ : Addr).add j = ⟨b, off + j, none⟩ := by unfold Addr.add; split <;> simp_all
        rw [hplain, hc j hjl]
        simp [List.getElem?_eq_getElem hjl] at hj
        subst hj
        simp [hjl]
    obtain ⟨v', w', hr, r2, r3, r4⟩ := run_append_own (P := P) wr w.heap.size t o.type e i _ 1 bytes ht hi hz0 hz1 hz2 rfl (by decide) v l.length _ hN.1 ad l2.length cap (l2.map (Value.int k)) (by simp) hcells (ints_oneCell k l2) (by unfold maxLen; omega) hlen hN.2.size
    have hnear := append_near wr w.heap.size t o.type e i bytes ht hi hz0 hz1 hz2 v l.length _ hN.1 ad l2.length cap (l2.map (Value.int k)) (by simp) hcells (ints_oneCell k l2) (by unfold maxLen; omega) hlen v' w' hr r4
    unfold Oper.wp execOp
    simp only [ho, resolve, invoke, builtin, Sem.run_bind, Sem.run_pure, Result.andThen_ok, List.map_toArray, List.map_cons, List.map_nil, hs, hx, hr]
    exact h v' w' (hN.append r2 r3 rfl rfl) r3 hnear
theorem wpList_append_near {k : IntKind} {P : Program} {w wr : World} {ops : Array Oper} {rest : List Oper} {o : Oper} {a : Act} {Q : Exit → Act → World → Prop} (hg : o.guard = none) (s x : Operand) (t : TypeId)
    (ho : o.op = .call { callee := .builtin .append, args := #[s, x], argTypes := #[t, t] }) (e : TypeId) (ht : P.underlying t = some (.slice e)) (bytes : Nat)
    (hinfo : (P.info? e).map (fun i => (i.zero, i.size, i.bytes)) = some (some (.int k 0), 1, bytes)) (v : Value) (l : List Int) (hs : a.eval s = v) (hN : NewI k e w v l wr)
    (vx : Value) (l2 : List Int) (hx : a.eval x = vx) (hR : RdI k wr vx l2) (hlen : (l.length + l2.length) * bytes ≤ 140737488355328) (hlen2 : l.length + l2.length ≤ 140737488355328)
    (h : ∀ v' w', NewI k e w v' (l ++ l2) w' → wr.grownBy w' v.ownBlock → Near wr v v' → wpList P ops Q rest (a.put o.dst v') w') : wpList P ops Q (o :: rest) a wr :=
  wpList_plain hg fun _ hK => wp_append_near s x t ho e ht bytes hinfo v l hs hN vx l2 hx hR hlen hlen2 fun v' w' h1 h2 h3 => hK _ _ (h v' w' h1 h2 h3)

/-- Two rows lie apart. -/
def Apart (v u : Value) : Prop := ∀ g, v.ownBlock = some g → u.ownBlock ≠ some g
theorem Apart.symm {v u : Value} (h : Apart v u) : Apart u v := fun g hg hv => h g hv hg
theorem Apart.nil (u : Value) : Apart (.slice none 0 0) u := fun g hg => by cases hg
/-- One row grows: another one that lay apart is as it was, and lies apart still. -/
theorem NewI.beside {k k2 : IntKind} {e e2 : TypeId} {w w2 wr w' : World} {v v' u : Value} {l l' l2 : List Int} (hu : NewI k2 e2 w2 u l2 wr) (hv' : NewI k e w v' l' w') (hw2 : Below w2.heap.size w2 w') (hg : wr.grownBy w' v.ownBlock) (hap : Apart v u) (hn : Near wr v v') :
    NewI k2 e2 w2 u l2 w' ∧ Apart v' u := by
  have hlt := hu.1.lt
  refine ⟨⟨⟨hu.1.1, hu.1.2.imp id ?_⟩, hw2⟩, ?_⟩
  · rintro ⟨g, cap, cur, e1, h2, h3, h4⟩
    refine ⟨g, cap, cur, e1, h2, ?_, h4⟩
    rw [hg.block g (Array.getElem?_eq_some_iff.1 h3).1 ?_, h3]
    intro hc
    exact hap g hc.symm (by rw [e1]; rfl)
  · intro g hg' hug
    rcases hn with h1 | h1
    · rw [h1] at hg'
      exact hap g hg' hug
    · have h2 := h1 g hg'
      have h3 := (hlt g hug).2
      omega
end Go.Proofs.Ytmgkocoemgpgbaa
