/- What functions of the program, or of the reference, answer: contracts; several texts in one. -/
import Derived.Test.YtpoibhhijidobabGreatDoorBase
import Derived.Test.YtpoibhhijidobabGreatDoorChecked
import Derived.Deep.QuietTactic
import Derived.BigQuiet
import Derived.WalkSpells
import Derived.RegionTactic
import Derived.BigRegion
import Derived.WalkKit
import Derived.Lib.SmallJoins
import Derived.Deep.SlicePairs
import Derived.Deep.Strs
import Derived.OpenShut
import Derived.ChangeSlices
import Derived.OwnWalk

/- Texts as rows of bytes: names, blanks at the ends, parts between some byte: plain mathematics. No program's text is named. -/
namespace Go.Proofs.YtpoibhhijidobabGreatDoor
set_option linter.unusedSimpArgs false
set_option linter.unusedVariables false

/-- A sign that a name may have. -/
def nmC (c : UInt8) : Bool := (48 ≤ c.toNat && c.toNat ≤ 57) || (97 ≤ c.toNat && c.toNat ≤ 122) || (65 ≤ c.toNat && c.toNat ≤ 90)
def nmB (s : List UInt8) : Bool := 1 ≤ s.length && s.length ≤ 32 && s.all nmC
/-- A text without blanks at its front, at its end, at both. -/
def tfT : List UInt8 → List UInt8
  | [] => []
  | x :: t => if x = 32 then tfT t else x :: t
def teT (s : List UInt8) : List UInt8 := (tfT s.reverse).reverse
def tmT (s : List UInt8) : List UInt8 := teT (tfT s)
theorem tfT_drop (s : List UInt8) : ∀ a, (∀ i, i < a → s.getD i 0 = 32) → a ≤ s.length → (a = s.length ∨ s.getD a 0 ≠ 32) → tfT s = s.drop a := by
  induction s with
  | nil => intro a _ h _; simp at h; subst h; rfl
  | cons x t ih =>
    intro a h1 h2 h3
    cases a with
    | zero =>
      rcases h3 with h | h
      · simp at h
      · show (if x = 32 then tfT t else x :: t) = x :: t
        rw [if_neg (by simpa using h)]
    | succ a =>
      have hx : x = 32 := by simpa using h1 0 (by omega)
      show (if x = 32 then tfT t else x :: t) = t.drop a
      rw [if_pos hx]
      refine ih a (fun i hi => ?_) (by simpa using h2) ?_
      · have := h1 (i + 1) (by omega)
        simpa using this
      · rcases h3 with h | h
        · left; simpa using h
        · right; simpa using h
theorem teT_take (s : List UInt8) (b : Nat) (h1 : ∀ i, b ≤ i → i < s.length → s.getD i 0 = 32) (h2 : b ≤ s.length) (h3 : b = 0 ∨ s.getD (b - 1) 0 ≠ 32) : teT s = s.take b := by
  unfold teT
  have hr : ∀ i, i < s.length → s.reverse.getD i 0 = s.getD (s.length - 1 - i) 0 := fun i hi => by
    simp [hi, List.getElem?_reverse hi, show s.length - 1 - i < s.length by omega]
  rw [tfT_drop s.reverse (s.length - b) (fun i hi => by rw [hr i (by omega)]; exact h1 _ (by omega) (by omega)) (by rw [List.length_reverse]; omega) ?_]
  · rw [List.drop_reverse, List.reverse_reverse, show s.length - (s.length - b) = b by omega]
  · by_cases hb : b = 0
    · left; rw [List.length_reverse]; omega
    · right
      rw [hr _ (by omega), show s.length - 1 - (s.length - b) = b - 1 by omega]
      rcases h3 with h | h
      · omega
      · exact h
/-- What two loops come to. -/
theorem tmT_part (s : List UInt8) (a b : Nat) (h1 : ∀ i, i < a → s.getD i 0 = 32) (h2 : a ≤ b) (hb : b ≤ s.length) (h3 : a = s.length ∨ s.getD a 0 ≠ 32) (h4 : ∀ i, b ≤ i → i < s.length → s.getD i 0 = 32) (h5 : b = a ∨ s.getD (b - 1) 0 ≠ 32) : tmT s = (s.take b).drop a := by
  unfold tmT
  rw [tfT_drop s a h1 (by omega) h3]
  have hg : ∀ i, (s.drop a).getD i 0 = s.getD (a + i) 0 := fun i => by simp [List.getElem?_drop]
  rw [teT_take (s.drop a) (b - a) (fun i hi hl => by rw [hg]; rw [List.length_drop] at hl; exact h4 _ (by omega) (by omega)) (by rw [List.length_drop]; omega) ?_]
  · rw [List.take_drop, show a + (b - a) = b by omega]
  · rcases h5 with h | h
    · left; omega
    · by_cases hab : b = a
      · left; omega
      · right; rw [hg, show a + (b - a - 1) = b - 1 by omega]; exact h
/-- A text's parts between some byte. -/
def splL (c : UInt8) : List UInt8 → List (List UInt8)
  | [] => [[]]
  | x :: t => if x = c then [] :: splL c t else match splL c t with
    | [] => [[x]]
    | p :: ps => (x :: p) :: ps
theorem splL_ne (c : UInt8) : ∀ s, splL c s ≠ []
  | [] => by simp [splL]
  | x :: t => by
    unfold splL
    split
    · simp
    · split <;> simp
theorem splL_cons (c x : UInt8) (h : x ≠ c) (t : List UInt8) (p : List UInt8) (ps : List (List UInt8)) (e : splL c t = p :: ps) : splL c (x :: t) = (x :: p) :: ps := by
  unfold splL
  rw [if_neg h, e]
theorem splL_last (c : UInt8) : ∀ p : List UInt8, (∀ x ∈ p, x ≠ c) → splL c p = [p]
  | [], _ => rfl
  | x :: t, h => splL_cons c x (h x (by simp)) t t [] (splL_last c t fun y hy => h y (by simp [hy]))
theorem splL_cut (c : UInt8) : ∀ (p t : List UInt8), (∀ x ∈ p, x ≠ c) → splL c (p ++ c :: t) = p :: splL c t
  | [], t, _ => by
    show (if c = c then [] :: splL c t else _) = _
    rw [if_pos rfl]
  | x :: p, t, h => splL_cons c x (h x (by simp)) (p ++ c :: t) p (splL c t) (splL_cut c p t fun y hy => h y (by simp [hy]))
/-- One part more of a text. -/
theorem spl_step (c : UInt8) (s : List UInt8) (f i : Nat) (hf : f ≤ i) (hi : i < s.length) (hn : ∀ k, f ≤ k → k < i → s.getD k 0 ≠ c) (hc : s.getD i 0 = c) : splL c (s.drop f) = (s.take i).drop f :: splL c (s.drop (i + 1)) := by
  have e : s.drop f = (s.take i).drop f ++ c :: s.drop (i + 1) := by
    have h1 : s = s.take i ++ s.drop i := (List.take_append_drop i s).symm
    have h2 : s.drop i = c :: s.drop (i + 1) := by
      rw [List.drop_eq_getElem_cons hi]
      have : s[i] = c := by simpa [hi] using hc
      rw [this]
    have h3 : s.drop f = (s.take i ++ s.drop i).drop f := by rw [List.take_append_drop]
    rw [h3, List.drop_append_of_le_length (by simp; omega), h2]
  rw [e]
  refine splL_cut c _ _ fun x hx => ?_
  obtain ⟨k, hk, rfl⟩ := List.mem_iff_getElem.1 hx
  simp at hk
  have := hn (f + k) (by omega) (by omega)
  simpa [show f + k < s.length by omega] using this
theorem spl_end (c : UInt8) (s : List UInt8) (f : Nat) (hf : f ≤ s.length) (hn : ∀ k, f ≤ k → k < s.length → s.getD k 0 ≠ c) : splL c (s.drop f) = [(s.take s.length).drop f] := by
  rw [List.take_length]
  refine splL_last c _ fun x hx => ?_
  obtain ⟨k, hk, rfl⟩ := List.mem_iff_getElem.1 hx
  simp at hk
  have := hn (f + k) (by omega) (by omega)
  simpa [show f + k < s.length by omega] using this
theorem splL_len (c : UInt8) : ∀ (s p : List UInt8), p ∈ splL c s → p.length ≤ s.length
  | [], p, h => by
    simp [splL] at h
    subst h
    simp
  | x :: t, p, h => by
    have ih := splL_len c t
    unfold splL at h
    split at h
    · rcases List.mem_cons.1 h with rfl | h
      · simp
      · have := ih p h
        simp
        omega
    · split at h
      · simp at h
        subst h
        simp
      · rename_i q qs e
        rcases List.mem_cons.1 h with rfl | h
        · have := ih q (by rw [e]; simp)
          simp
          omega
        · have := ih p (by rw [e]; simp [h])
          simp
          omega
theorem splL_count (c : UInt8) : ∀ s : List UInt8, (splL c s).length ≤ s.length + 1
  | [] => by simp [splL]
  | x :: t => by
    have ih := splL_count c t
    unfold splL
    split
    · simp
      omega
    · split
      · simp
      · rename_i q qs e
        rw [e] at ih
        simp at ih ⊢
        omega
end Go.Proofs.YtpoibhhijidobabGreatDoor

/- Rows of any kind of element, made by a call and growing side by side: what they hold, how they grow, how an element is loaded. No program's text is named. -/
namespace Go.Proofs.YtpoibhhijidobabGreatDoor
open Go.ChangeShapes Go.WideShapes Go.ChangeAt Go.RowKit
set_option linter.unusedSimpArgs false
set_option linter.unusedVariables false

theorem own_chgG {S : Nat → Prop} {w w' : World} {base sz : Nat} {e : TypeId} {v : Value} {n : Nat} {xs : List Value} (h : w.ownsRow base e sz v n xs) (c : Chg S w w') (hS : ∀ g, v.ownBlock = some g → ¬ S g) : w'.ownsRow base e sz v n xs := by
  refine ⟨h.1, h.2.imp id ?_⟩
  rintro ⟨g, cap, cur, rfl, h2, h3, h4⟩
  refine ⟨g, cap, cur, rfl, h2, ?_, h4⟩
  rw [c.block g (Array.getElem?_eq_some_iff.1 h3).1 (hS g rfl), h3]
theorem own_monoG {w : World} {base base' sz : Nat} {e : TypeId} {v : Value} {n : Nat} {xs : List Value} (h : w.ownsRow base e sz v n xs) (hb : base' ≤ base) : w.ownsRow base' e sz v n xs := by
  refine ⟨h.1, h.2.imp id ?_⟩
  rintro ⟨g, cap, cur, rfl, h2, h3⟩
  exact ⟨g, cap, cur, rfl, Nat.le_trans hb h2, h3⟩
theorem own_keptG {w w' : World} {base sz : Nat} {e : TypeId} {v : Value} {n : Nat} {xs : List Value} (h : w.ownsRow base e sz v n xs) (hb : Below w.heap.size w w') : w'.ownsRow base e sz v n xs :=
  own_chgG h (Chg.of_below (S := fun _ => False) hb) fun _ _ => id
theorem append_nearG {P : Program} (wr : World) (base : Nat) (t ty e : TypeId) (i : TypeInfo) (z : Value) (size bytes : Nat) (ht : P.underlying t = some (.slice e)) (hi : P.info? e = some i) (hz : i.zero = some z) (hsize : i.size = size) (hby : i.bytes = bytes)
    (v : Value) (n : Nat) (xs : List Value) (hown : wr.ownsRow base e size v n xs) (ad : Addr) (m c : Nat) (news : List Value) (hl : news.length = m * size) (hnews : ∀ j u, news[j]? = some u → wr.cell? (ad.add j) = some u) (h1 : ∀ u ∈ news, u.oneCell' = true)
    (h63 : n + m ≤ maxLen) (hbytes : (n + m) * bytes ≤ 140737488355328) (v' : Value) (w' : World) (hr : (Builtin.append_ #[t, t] ty #[v, .slice (some ad) m c]).run P wr = .ok v' w') (hnil : v' = .slice none 0 0 ↔ v = .slice none 0 0 ∧ m = 0) : Near wr v v' := by
  subst hsize hby
  have hsmall : n + m ≤ 9223372036854775807 := by simp only [maxLen] at h63; omega
  rcases hown.2 with ⟨rfl, h0⟩ | ⟨g, cap, cur, rfl, hb, hg, hn, hm, hss, htk⟩
  · subst h0
    by_cases hm0 : m = 0
    · left
      rw [hnil.2 ⟨rfl, hm0⟩]
    · right
      have := run_append_nil (P := P) wr t ty e i _ ht hi hz ad m c news hl hnews (by omega) (by omega) (by rw [Nat.zero_add] at hbytes; omega)
      rw [this] at hr
      simp only [Result.ok.injEq] at hr
      intro g hg
      rw [← hr.1] at hg
      simp only [Value.ownBlock, Option.some.injEq] at hg
      omega
  · by_cases hroom : n + m ≤ cap
    · left
      have hfit : n * i.size + news.length ≤ cur.size := by rw [hl, hss, ← Nat.add_mul]; exact Nat.mul_le_mul_right _ hroom
      have := run_append_room (P := P) wr t ty e i ht hi g n cap cur hg ad m c news hl hnews h1 hroom hfit
      rw [this] at hr
      simp only [Result.ok.injEq] at hr
      rw [← hr.1]
      rfl
    · right
      have := run_append_grow (P := P) wr t ty e i _ ht hi hz ⟨g, 0, none⟩ n cap xs hown.1 (fun j u hj => hown.cells rfl j u hj) ad m c news hl hnews (by omega) (by omega) (growslice_fits (by omega) hbytes)
      rw [this] at hr
      simp only [Result.ok.injEq] at hr
      intro g' hg'
      rw [← hr.1] at hg'
      simp only [Value.ownBlock, Option.some.injEq] at hg'
      omega
/-- A row: the block's type, an element's cells, the value, how many elements, all cells. -/
structure Rw where
  ty : TypeId
  sz : Nat
  v : Value
  n : Nat
  xs : List Value
/-- A row of bytes. -/
def Rw.by (e : TypeId) (v : Value) (l : List UInt8) : Rw := ⟨e, 1, v, l.length, l.map bv⟩
/-- Rows that were made since w0, none of which lies where another one lies; of what was there at w0 nothing has changed. -/
structure OwnG (w0 : World) (L : List Rw) (w : World) : Prop where
  rows : ∀ p ∈ L, w.ownsRow w0.heap.size p.ty p.sz p.v p.n p.xs
  apart : L.Pairwise fun p q => Apart p.v q.v
  below : Below w0.heap.size w0 w
theorem OwnG.start (w0 : World) : OwnG w0 [] w0 := ⟨(fun p hp => by cases hp), .nil, Below.refl _ _⟩
theorem OwnG.since {w0 w : World} (h : Below w0.heap.size w0 w) : OwnG w0 [] w := ⟨(fun p hp => by cases hp), .nil, h⟩
theorem OwnG.kept {w0 w w' : World} {L : List Rw} (h : OwnG w0 L w) (hb : Below w.heap.size w w') : OwnG w0 L w' :=
  ⟨fun p hp => own_keptG (h.rows p hp) hb, h.apart, stepB h.below hb⟩
theorem OwnG.drew {w0 w : World} {L : List Rw} (h : OwnG w0 L w) : OwnG w0 L w.drew := h.kept (Below.refl _ _).drew
theorem OwnG.perm {w0 w : World} {L L' : List Rw} (h : OwnG w0 L w) (hp : L'.Perm L) : OwnG w0 L' w :=
  ⟨fun p hp' => h.rows p (hp.subset hp'), (hp.pairwise_iff (fun h => h.symm)).2 h.apart, h.below⟩
theorem OwnG.tail {w0 w : World} {p : Rw} {L : List Rw} (h : OwnG w0 (p :: L) w) : OwnG w0 L w :=
  ⟨fun q hq => h.rows q (List.mem_cons_of_mem _ hq), (List.pairwise_cons.1 h.apart).2, h.below⟩
theorem OwnG.swap {w0 w : World} {p q : Rw} {L : List Rw} (h : OwnG w0 (p :: q :: L) w) : OwnG w0 (q :: p :: L) w := h.perm (List.Perm.swap ..)
theorem OwnG.third {w0 w : World} {p q r : Rw} {L : List Rw} (h : OwnG w0 (p :: q :: r :: L) w) : OwnG w0 (r :: p :: q :: L) w :=
  h.perm ((List.Perm.swap p r (q :: L)).trans (List.Perm.cons p (List.Perm.swap q r L)))
theorem OwnG.rd {w0 w : World} {e : TypeId} {v : Value} {l : List UInt8} {L : List Rw} (h : OwnG w0 L w) (hp : Rw.by e v l ∈ L) : Rd w v l := Rd.of_row (h.rows _ hp)
theorem OwnG.rd0 {w0 w : World} {e : TypeId} {v : Value} {l : List UInt8} {L : List Rw} (h : OwnG w0 (Rw.by e v l :: L) w) : Rd w v l := h.rd (List.mem_cons_self ..)
/-- Nothing yet. -/
theorem OwnG.nil {w0 w : World} (ty : TypeId) (sz : Nat) {L : List Rw} (h : OwnG w0 L w) : OwnG w0 (⟨ty, sz, .slice none 0 0, 0, []⟩ :: L) w :=
  ⟨fun p hp => by
    rcases List.mem_cons.1 hp with rfl | hp
    · exact World.ownsRow_nil _ _ _ _
    · exact h.rows p hp, List.pairwise_cons.2 ⟨fun q _ => Apart.nil _, h.apart⟩, h.below⟩
theorem OwnG.nilB {w0 w : World} (ty : TypeId) {L : List Rw} (h : OwnG w0 L w) : OwnG w0 (Rw.by ty (.slice none 0 0) [] :: L) w := h.nil ty 1
/-- What a call gives in new memory lies apart from all others. -/
theorem OwnG.fresh {w0 w w' : World} {p : Rw} {L : List Rw} (h : OwnG w0 L w) (hN : w'.ownsRow w.heap.size p.ty p.sz p.v p.n p.xs) (hb : Below w.heap.size w w') : OwnG w0 (p :: L) w' := by
  have hk := h.kept hb
  refine ⟨fun q hq => ?_, List.pairwise_cons.2 ⟨fun q hq => ?_, h.apart⟩, hk.below⟩
  · rcases List.mem_cons.1 hq with rfl | hq
    · exact own_monoG hN h.below.size
    · exact hk.rows q hq
  · refine Apart.symm (Apart.lt (B := w.heap.size) (fun g hg => ((h.rows q hq).lt g hg).2) fun g hg => (hN.lt g hg).1)
theorem OwnG.new {w0 w w' : World} {e : TypeId} {v : Value} {l : List UInt8} {L : List Rw} (h : OwnG w0 L w) (hN : New e w v l w') : OwnG w0 (Rw.by e v l :: L) w' := h.fresh hN.1 hN.2
theorem OwnG.toNew {w0 w : World} {e : TypeId} {v : Value} {l : List UInt8} {L : List Rw} (h : OwnG w0 (Rw.by e v l :: L) w) : New e w0 v l w := ⟨h.rows _ (List.mem_cons_self ..), h.below⟩
/-- A block that is none of them is written. -/
theorem OwnG.wrote {w0 w w' : World} {g : Nat} {L : List Rw} (h : OwnG w0 L w) (hw : Wrote g w w') (hg : w0.heap.size ≤ g) (hn : ∀ p ∈ L, ∀ b, p.v.ownBlock = some b → b ≠ g) : OwnG w0 L w' :=
  ⟨fun p hp => own_chgG (h.rows p hp) (Chg.of_wrote hw) fun b hb e => hn p hp b hb e, h.apart, hw.below _ _ hg h.below⟩
theorem OwnG.lt {w0 w : World} {L : List Rw} (h : OwnG w0 L w) : ∀ p ∈ L, ∀ b, p.v.ownBlock = some b → b < w.heap.size := fun p hp b hb => ((h.rows p hp).lt b hb).2
/-- Told of an older world. -/
theorem OwnG.from {w0 w1 w : World} {L : List Rw} (h : OwnG w1 L w) (hb : Below w0.heap.size w0 w1) : OwnG w0 L w :=
  ⟨fun p hp => own_monoG (h.rows p hp) hb.size, h.apart, hb.trans (h.below.mono hb.size)⟩
/-- The first one has grown. -/
theorem OwnG.grown {w0 wr w' : World} {p p' : Rw} {L : List Rw} (h : OwnG w0 (p :: L) wr) (h1 : w'.ownsRow w0.heap.size p'.ty p'.sz p'.v p'.n p'.xs) (hg : wr.grownBy w' p.v.ownBlock) (hn : Near wr p.v p'.v) : OwnG w0 (p' :: L) w' := by
  have hp := List.pairwise_cons.1 h.apart
  have hv := h.rows p (List.mem_cons_self ..)
  refine ⟨fun q hq => ?_, List.pairwise_cons.2 ⟨fun q hq => ?_, hp.2⟩, h.below.grown hg h.below.size fun k hk => (hv.lt k hk).1⟩
  · rcases List.mem_cons.1 hq with rfl | hq
    · exact h1
    · exact own_chgG (h.rows q (List.mem_cons_of_mem _ hq)) (Chg.of_grown hg) fun g hg' e => hp.1 q hq g e.symm hg'
  · exact Apart.near hn (hp.1 q hq) fun g hg' => ((h.rows q (List.mem_cons_of_mem _ hq)).lt g hg').2
/-- Bytes are appended to the first one. -/
theorem wp_append_G {P : Program} {e : TypeId} {w0 wr : World} {L : List Rw} {o : Oper} {a : Act} {K : Act → World → Prop} {Q : Exit → Act → World → Prop} (s x : Operand) (t : TypeId)
    (ho : o.op = .call { callee := .builtin .append, args := #[s, x], argTypes := #[t, t] }) (ht : P.underlying t = some (.slice e))
    (hinfo : (P.info? e).map (fun i => (i.zero, i.size, i.bytes)) = some (some (.int .u8 0), 1, 1)) (v : Value) (l : List UInt8) (hs : a.eval s = v) (hO : OwnG w0 (Rw.by e v l :: L) wr)
    (vx : Value) (l2 : List UInt8) (hx : a.eval x = vx) (hR : Rd wr vx l2) (hlen : l.length + l2.length ≤ 140737488355328)
    (h : ∀ v' w', OwnG w0 (Rw.by e v' (l ++ l2) :: L) w' → Chg (fun b => some b = v.ownBlock) wr w' → K (a.put o.dst v') w') : o.wp P a wr K Q :=
  wp_append_base s x t ho e ht hinfo v l hs (hO.rows _ (List.mem_cons_self ..)) hO.below.size vx l2 hx hR hlen fun v' w' h1 h2 h3 => h v' w' (hO.grown (p' := Rw.by e v' (l ++ l2)) h1 h2 h3) (Chg.of_grown h2)
theorem wpList_append_G {P : Program} {e : TypeId} {w0 wr : World} {L : List Rw} {ops : Array Oper} {rest : List Oper} {o : Oper} {a : Act} {Q : Exit → Act → World → Prop} (hg : o.guard = none) (s x : Operand) (t : TypeId)
    (ho : o.op = .call { callee := .builtin .append, args := #[s, x], argTypes := #[t, t] }) (ht : P.underlying t = some (.slice e))
    (hinfo : (P.info? e).map (fun i => (i.zero, i.size, i.bytes)) = some (some (.int .u8 0), 1, 1)) (v : Value) (l : List UInt8) (hs : a.eval s = v) (hO : OwnG w0 (Rw.by e v l :: L) wr)
    (vx : Value) (l2 : List UInt8) (hx : a.eval x = vx) (hR : Rd wr vx l2) (hlen : l.length + l2.length ≤ 140737488355328)
    (h : ∀ v' w', OwnG w0 (Rw.by e v' (l ++ l2) :: L) w' → Chg (fun b => some b = v.ownBlock) wr w' → wpList P ops Q rest (a.put o.dst v') w') : wpList P ops Q (o :: rest) a wr :=
  wpList_plain hg fun _ hK => wp_append_G s x t ho ht hinfo v l hs hO vx l2 hx hR hlen fun v' w' h1 h2 => hK _ _ (h v' w' h1 h2)
/-- Elements of any kind are appended to the first one. -/
theorem wp_append_E {P : Program} {w0 wr : World} {L : List Rw} {o : Oper} {a : Act} {K : Act → World → Prop} {Q : Exit → Act → World → Prop} (s x : Operand) (t : TypeId)
    (ho : o.op = .call { callee := .builtin .append, args := #[s, x], argTypes := #[t, t] }) (e : TypeId) (i : TypeInfo) (z : Value) (size bytes : Nat) (ht : P.underlying t = some (.slice e)) (hi : P.info? e = some i) (hz : i.zero = some z)
    (hsize : i.size = size) (hby : i.bytes = bytes) (hzs : z.cells.size = size) (hsz : 0 < size) (v : Value) (n : Nat) (xs : List Value) (hs : a.eval s = v) (hO : OwnG w0 (⟨e, size, v, n, xs⟩ :: L) wr)
    (ad : Addr) (m c : Nat) (news : List Value) (hx : a.eval x = .slice (some ad) m c) (hl : news.length = m * size) (hnews : ∀ j u, news[j]? = some u → wr.cell? (ad.add j) = some u) (h1 : ∀ u ∈ news, u.oneCell' = true)
    (h63 : n + m ≤ maxLen) (hbytes : (n + m) * bytes ≤ 140737488355328)
    (h : ∀ v' w', OwnG w0 (⟨e, size, v', n + m, xs ++ news⟩ :: L) w' → Chg (fun b => some b = v.ownBlock) wr w' → K (a.put o.dst v') w') : o.wp P a wr K Q := by
  have hown := hO.rows _ (List.mem_cons_self ..)
  obtain ⟨v', w', hr, r2, r3, r4⟩ := run_append_own (P := P) wr w0.heap.size t o.type e i z size bytes ht hi hz hsize hby hzs hsz v n xs hown ad m c news hl hnews h1 h63 hbytes hO.below.size
  have hnear := append_nearG wr w0.heap.size t o.type e i z size bytes ht hi hz hsize hby v n xs hown ad m c news hl hnews h1 h63 hbytes v' w' hr r4
  unfold Oper.wp execOp
  simp only [ho, resolve, invoke, builtin, Sem.run_bind, Sem.run_pure, Result.andThen_ok, List.map_toArray, List.map_cons, List.map_nil, hs, hx, hr]
  exact h v' w' (hO.grown (p' := ⟨e, size, v', n + m, xs ++ news⟩) r2 r3 hnear) (Chg.of_grown r3)
theorem wpList_append_E {P : Program} {w0 wr : World} {L : List Rw} {ops : Array Oper} {rest : List Oper} {o : Oper} {a : Act} {Q : Exit → Act → World → Prop} (hg : o.guard = none) (s x : Operand) (t : TypeId)
    (ho : o.op = .call { callee := .builtin .append, args := #[s, x], argTypes := #[t, t] }) (e : TypeId) (i : TypeInfo) (z : Value) (size bytes : Nat) (ht : P.underlying t = some (.slice e)) (hi : P.info? e = some i) (hz : i.zero = some z)
    (hsize : i.size = size) (hby : i.bytes = bytes) (hzs : z.cells.size = size) (hsz : 0 < size) (v : Value) (n : Nat) (xs : List Value) (hs : a.eval s = v) (hO : OwnG w0 (⟨e, size, v, n, xs⟩ :: L) wr)
    (ad : Addr) (m c : Nat) (news : List Value) (hx : a.eval x = .slice (some ad) m c) (hl : news.length = m * size) (hnews : ∀ j u, news[j]? = some u → wr.cell? (ad.add j) = some u) (h1 : ∀ u ∈ news, u.oneCell' = true)
    (h63 : n + m ≤ maxLen) (hbytes : (n + m) * bytes ≤ 140737488355328)
    (h : ∀ v' w', OwnG w0 (⟨e, size, v', n + m, xs ++ news⟩ :: L) w' → Chg (fun b => some b = v.ownBlock) wr w' → wpList P ops Q rest (a.put o.dst v') w') : wpList P ops Q (o :: rest) a wr :=
  wpList_plain hg fun _ hK => wp_append_E s x t ho e i z size bytes ht hi hz hsize hby hzs hsz v n xs hs hO ad m c news hx hl hnews h1 h63 hbytes fun v' w' h1 h2 => hK _ _ (h v' w' h1 h2)
/-- Where an element lies. -/
theorem own_elem {w : World} {base sz : Nat} {e : TypeId} {v : Value} {n : Nat} {xs : List Value} (h : w.ownsRow base e sz v n xs) {j : Nat} (hj : j < n) (pre mid post : List Value) (hx : xs = pre ++ mid ++ post) :
    ∃ g cap more, v = .slice (some ⟨g, 0, none⟩) n cap ∧ n ≤ cap ∧ cap ≤ maxLen ∧ base ≤ g ∧ BlkAt g e (pre ++ mid ++ more) w := by
  rcases h.2 with ⟨_, h0⟩ | ⟨g, cap, cur, hv, hb, hg, hn, hm, hss, htk⟩
  · omega
  · refine ⟨g, cap, post ++ cur.toList.drop (n * sz), hv, hn, hm, hb, ?_⟩
    have e1 : pre ++ mid ++ (post ++ cur.toList.drop (n * sz)) = cur.toList := by
      rw [← List.append_assoc, ← hx, ← htk, List.take_append_drop]
    unfold BlkAt
    rw [e1, hg]
end Go.Proofs.YtpoibhhijidobabGreatDoor

/- What the document's own names, blanks and parts of a text are: contracts of the reference of layer 15, first part. -/
namespace Go.Proofs.YtpoibhhijidobabGreatDoor
open Go.ChangeShapes Go.WideShapes Go.ChangeAt Go.RowKit
set_option linter.unusedSimpArgs false
set_option linter.unusedVariables false

theorem str_at (s : List UInt8) (i : Nat) (h : i < s.length) (w : World) : (Instr.index 9 (.string ⟨s.toArray⟩) (.int .i64 (i : Int))).run Tryz.prog w = .ok (.int .u8 ((s.getD i 0).toNat : Int)) w := by
  have e : (⟨s.toArray⟩ : ByteArray)[i]? = some (s.getD i 0) := by
    show (if h : i < s.toArray.size then some s.toArray[i] else none) = _
    simp [h]
  have hz : (0 : Int) ≤ (i : Int) := by omega
  simp only [Instr.index, asIntOf, Sem.run_bind, Sem.run_pure, Result.andThen_ok, run_underlying Tryz.underlying9, hz, if_true, Int.toNat_natCast, e]
theorem nm_facts (x : UInt8) (c : Nat) (b : Bool) (hc : c = x.toNat) (hb : b = nmC x) : (decide ((48 : Int) ≤ (c : Int)) = false ∧ decide ((c : Int) ≤ 57) = true ∧ decide ((97 : Int) ≤ (c : Int)) = false ∧ decide ((c : Int) ≤ 122) = true ∧ decide ((65 : Int) ≤ (c : Int)) = false ∧ decide ((c : Int) ≤ 90) = true ∧ 0 ≤ c ∧ c ≤ 47 ∧ b = false) ∨
    (decide ((48 : Int) ≤ (c : Int)) = true ∧ decide ((c : Int) ≤ 57) = true ∧ decide ((97 : Int) ≤ (c : Int)) = false ∧ decide ((c : Int) ≤ 122) = true ∧ decide ((65 : Int) ≤ (c : Int)) = false ∧ decide ((c : Int) ≤ 90) = true ∧ 48 ≤ c ∧ c ≤ 57 ∧ b = true) ∨
    (decide ((48 : Int) ≤ (c : Int)) = true ∧ decide ((c : Int) ≤ 57) = false ∧ decide ((97 : Int) ≤ (c : Int)) = false ∧ decide ((c : Int) ≤ 122) = true ∧ decide ((65 : Int) ≤ (c : Int)) = false ∧ decide ((c : Int) ≤ 90) = true ∧ 58 ≤ c ∧ c ≤ 64 ∧ b = false) ∨
    (decide ((48 : Int) ≤ (c : Int)) = true ∧ decide ((c : Int) ≤ 57) = false ∧ decide ((97 : Int) ≤ (c : Int)) = false ∧ decide ((c : Int) ≤ 122) = true ∧ decide ((65 : Int) ≤ (c : Int)) = true ∧ decide ((c : Int) ≤ 90) = true ∧ 65 ≤ c ∧ c ≤ 90 ∧ b = true) ∨
    (decide ((48 : Int) ≤ (c : Int)) = true ∧ decide ((c : Int) ≤ 57) = false ∧ decide ((97 : Int) ≤ (c : Int)) = false ∧ decide ((c : Int) ≤ 122) = true ∧ decide ((65 : Int) ≤ (c : Int)) = true ∧ decide ((c : Int) ≤ 90) = false ∧ 91 ≤ c ∧ c ≤ 96 ∧ b = false) ∨
    (decide ((48 : Int) ≤ (c : Int)) = true ∧ decide ((c : Int) ≤ 57) = false ∧ decide ((97 : Int) ≤ (c : Int)) = true ∧ decide ((c : Int) ≤ 122) = true ∧ decide ((65 : Int) ≤ (c : Int)) = true ∧ decide ((c : Int) ≤ 90) = false ∧ 97 ≤ c ∧ c ≤ 122 ∧ b = true) ∨
    (decide ((48 : Int) ≤ (c : Int)) = true ∧ decide ((c : Int) ≤ 57) = false ∧ decide ((97 : Int) ≤ (c : Int)) = true ∧ decide ((c : Int) ≤ 122) = false ∧ decide ((65 : Int) ≤ (c : Int)) = true ∧ decide ((c : Int) ≤ 90) = false ∧ 123 ≤ c ∧ c ≤ 255 ∧ b = false) := by
  have h := x.toNat_lt
  unfold nmC at hb
  rw [← hc] at hb h
  by_cases h0 : c ≤ 47
  · exact .inl ⟨decide_eq_false (by omega), decide_eq_true (by omega), decide_eq_false (by omega), decide_eq_true (by omega), decide_eq_false (by omega), decide_eq_true (by omega), by omega, by omega, by rw [hb]; simp; omega⟩
  by_cases h1 : c ≤ 57
  · exact .inr (.inl ⟨decide_eq_true (by omega), decide_eq_true (by omega), decide_eq_false (by omega), decide_eq_true (by omega), decide_eq_false (by omega), decide_eq_true (by omega), by omega, by omega, by rw [hb]; simp; omega⟩)
  by_cases h2 : c ≤ 64
  · exact .inr (.inr (.inl ⟨decide_eq_true (by omega), decide_eq_false (by omega), decide_eq_false (by omega), decide_eq_true (by omega), decide_eq_false (by omega), decide_eq_true (by omega), by omega, by omega, by rw [hb]; simp; omega⟩))
  by_cases h3 : c ≤ 90
  · exact .inr (.inr (.inr (.inl ⟨decide_eq_true (by omega), decide_eq_false (by omega), decide_eq_false (by omega), decide_eq_true (by omega), decide_eq_true (by omega), decide_eq_true (by omega), by omega, by omega, by rw [hb]; simp; omega⟩)))
  by_cases h4 : c ≤ 96
  · exact .inr (.inr (.inr (.inr (.inl ⟨decide_eq_true (by omega), decide_eq_false (by omega), decide_eq_false (by omega), decide_eq_true (by omega), decide_eq_true (by omega), decide_eq_false (by omega), by omega, by omega, by rw [hb]; simp; omega⟩))))
  by_cases h5 : c ≤ 122
  · exact .inr (.inr (.inr (.inr (.inr (.inl ⟨decide_eq_true (by omega), decide_eq_false (by omega), decide_eq_true (by omega), decide_eq_true (by omega), decide_eq_true (by omega), decide_eq_false (by omega), by omega, by omega, by rw [hb]; simp; omega⟩)))))
  exact .inr (.inr (.inr (.inr (.inr (.inr (⟨decide_eq_true (by omega), decide_eq_false (by omega), decide_eq_true (by omega), decide_eq_false (by omega), decide_eq_true (by omega), decide_eq_false (by omega), by omega, by omega, by rw [hb]; simp; omega⟩))))))

set_option maxHeartbeats 4000000 in
theorem name15_any (s : List UInt8) (hs : s.length ≤ 1000000) (w : World) :
    Calls Tryz.prog 61 #[.string ⟨s.toArray⟩] w fun e w' => e = .returned (.bool (nmB s)) ∧ w' = w := by
  obtain ⟨L, hL⟩ : ∃ L : Nat, L = s.length := ⟨_, rfl⟩
  have HL : Hid (L = s.length) := hL
  have hsz : ByteArray.size ⟨s.toArray⟩ = L := by rw [hL]; rfl
  by_cases h : 1 ≤ L ∧ L ≤ 32
  · have d1 : decide ((L : Int) < 1) = false := decide_eq_false (by omega)
    have d2 : decide ((32 : Int) < (L : Int)) = false := decide_eq_false (by omega)
    have d3 : (1 : Int) ≤ (L : Int) := by omega
    have d4 : (L : Int) ≤ 32 := by omega
    have HB : Hid (nmB s = s.all nmC) := by
      show _ = _
      unfold nmB
      rw [← hL, decide_eq_true h.1, decide_eq_true h.2]
      rfl
    have HA : Hid (∀ i, i < L → ∀ w : World, (Instr.index 9 (.string ⟨s.toArray⟩) (.int .i64 (i : Int))).run Tryz.prog w = .ok (.int .u8 ((s.getD i 0).toNat : Int)) w) := by
      show ∀ i, _
      intro i hi w
      exact str_at s i (by omega) w
    generalize hS : (⟨s.toArray⟩ : ByteArray) = S at hsz HA
    clear hL h hs hS
    go_enter Tryz.func61, Tryz.ntmps61
    go_wp2
    go_loop [3] (fun iv => ∃ i : Nat, i ≤ L ∧ iv = .int .i64 (i : Int) ∧ Hid (∀ k, k < i → nmC (s.getD k 0) = true)) (fun iv => L - (intOf iv).toNat)
    case atStart => exact ⟨0, by omega, rfl, (by show ∀ k, _; intro k hk; omega)⟩
    case round =>
      obtain ⟨i, hi, rfl, HI⟩ := hrel
      by_cases hlt : i < L
      · have hd : decide ((i : Int) < (L : Int)) = true := decide_eq_true (by omega)
        have hiI : (i : Int) < (L : Int) := by omega
        have ha := HA.out i hlt
        obtain ⟨c, hc⟩ : ∃ c : Nat, c = (s.getD i 0).toNat := ⟨_, rfl⟩
        obtain ⟨b, hb⟩ : ∃ b : Bool, b = nmC (s.getD i 0) := ⟨_, rfl⟩
        have hcs := nm_facts _ c b hc hb
        rw [← hc] at ha
        have HC : Hid (b = nmC (s.getD i 0)) := hb
        have HF : Hid (b = false → nmB s = false) := by
          intro e
          rw [HB.out, List.all_eq_false]
          refine ⟨s.getD i 0, ?_, by rw [← HC.out, e]; simp⟩
          have h2 : i < s.length := by rw [← HL.out]; exact hlt
          simp [h2]
        clear hc hb
        rcases hcs with ⟨p1, p2, p3, p4, p5, p6, p7, p8, hb⟩ | ⟨p1, p2, p3, p4, p5, p6, p7, p8, hb⟩ | ⟨p1, p2, p3, p4, p5, p6, p7, p8, hb⟩ | ⟨p1, p2, p3, p4, p5, p6, p7, p8, hb⟩ | ⟨p1, p2, p3, p4, p5, p6, p7, p8, hb⟩ | ⟨p1, p2, p3, p4, p5, p6, p7, p8, hb⟩ | ⟨p1, p2, p3, p4, p5, p6, p7, p8, hb⟩
        all_goals
          subst hb
          first
          | (go_wp2
             go_round
             case rel => exact ⟨i + 1, by omega, by go_num, (by show ∀ k, _; intro k hk; rcases Nat.lt_or_ge k i with h | h; exact HI.out k h; rw [show k = i by omega]; exact HC.out.symm)⟩
             case measure => simp [intOf] <;> omega)
          | (go_wp2
             go_ret
             exact ⟨by rw [HF.out trivial]; rfl, rfl⟩)
      · have hd : decide ((i : Int) < (L : Int)) = false := decide_eq_false (by omega)
        have hiI : (L : Int) ≤ (i : Int) := by omega
        have HT : Hid (nmB s = true) := by
          show _ = _
          rw [HB.out, List.all_eq_true]
          intro x hx
          obtain ⟨k, hk, rfl⟩ := List.mem_iff_getElem.1 hx
          have := HI.out k (by have := HL.out; omega)
          simpa [hk] using this
        go_wp2
        go_ret
        exact ⟨by rw [HT.out]; rfl, rfl⟩
  · have HT : Hid (nmB s = false) := by
      show _ = _
      unfold nmB
      rw [← hL]
      rcases Nat.lt_or_ge L 1 with h1 | h1
      · rw [decide_eq_false (by omega)]; rfl
      · rw [decide_eq_true h1, decide_eq_false (by omega)]; rfl
    have hcase : (decide ((L : Int) < 1) = true ∧ (L : Int) < 1) ∨ (decide ((L : Int) < 1) = false ∧ (1 : Int) ≤ (L : Int) ∧ decide ((32 : Int) < (L : Int)) = true ∧ (32 : Int) < (L : Int)) := by
      by_cases h1 : L < 1
      · exact .inl ⟨decide_eq_true (by omega), by omega⟩
      · exact .inr ⟨decide_eq_false (by omega), by omega, decide_eq_true (by omega), by omega⟩
    generalize hS : (⟨s.toArray⟩ : ByteArray) = S at hsz
    clear hL h hs hS
    rcases hcase with ⟨c1, c2⟩ | ⟨c1, c2, c3, c4⟩
    all_goals
      go_enter Tryz.func61, Tryz.ntmps61
      go_wp2
      go_ret
      exact ⟨by rw [HT.out]; rfl, rfl⟩
end Go.Proofs.YtpoibhhijidobabGreatDoor

/- What the document's own text without blanks at its ends, and a text's parts, are: contracts of the reference of layer 15, second part. -/
namespace Go.Proofs.YtpoibhhijidobabGreatDoor
open Go.ChangeShapes Go.WideShapes Go.ChangeAt Go.RowKit
set_option linter.unusedSimpArgs false
set_option linter.unusedVariables false

theorem bytes_part (s : List UInt8) (a b : Nat) (h1 : a ≤ b) (h2 : b ≤ s.length) : (⟨s.toArray⟩ : ByteArray).extract a b = ⟨((s.take b).drop a).toArray⟩ := by
  refine ByteArray.ext ?_
  rw [ByteArray.data_extract]
  simp [List.drop_take, List.extract_eq_take_drop]
theorem str_cut (s : List UInt8) (S : ByteArray) (hS : (⟨s.toArray⟩ : ByteArray) = S) (a b : Nat) (h1 : a ≤ b) (h2 : b ≤ s.length) (hs : s.length ≤ 1000000) (w : World) : (Instr.sliceAt 9 (.string S) (some (.int .i64 (a : Int))) (some (.int .i64 (b : Int))) none).run Tryz.prog w = .ok (.string ⟨((s.take b).drop a).toArray⟩) w := by
  have hz : S.size = s.length := by rw [← hS]; rfl
  have e1 : S.extract a b = ⟨((s.take b).drop a).toArray⟩ := by rw [← hS, bytes_part s a b h1 h2]
  have e2 : (b : Int) ≤ (s.length : Int) := by omega
  have e3 : (a : Int) ≤ (b : Int) := by omega
  rw [← e1]
  clear hS e1
  generalize hL : s.length = L at hz e2 hs
  go_simp
theorem byte_is (x c : UInt8) : (x = c ∧ (((x.toNat : Nat) : Int) == ((c.toNat : Nat) : Int)) = true ∧ ((x.toNat : Nat) : Int) = ((c.toNat : Nat) : Int)) ∨ (x ≠ c ∧ (((x.toNat : Nat) : Int) == ((c.toNat : Nat) : Int)) = false ∧ ¬ ((x.toNat : Nat) : Int) = ((c.toNat : Nat) : Int)) := by
  by_cases h : x = c
  · left
    subst h
    simp
  · right
    have h2 : ¬ x.toNat = c.toNat := fun e => h (UInt8.toNat_inj.1 e)
    have h3 : ¬ ((x.toNat : Nat) : Int) = ((c.toNat : Nat) : Int) := by omega
    exact ⟨h, by simpa using h3, h3⟩
theorem str_atS (s : List UInt8) (S : ByteArray) (hS : (⟨s.toArray⟩ : ByteArray) = S) (i : Nat) (h : i < s.length) (w : World) : (Instr.index 9 (.string S) (.int .i64 (i : Int))).run Tryz.prog w = .ok (.int .u8 ((s.getD i 0).toNat : Int)) w := by
  rw [← hS]
  exact str_at s i h w

set_option maxHeartbeats 4000000 in
theorem trim15_any (s : List UInt8) (hs : s.length ≤ 1000000) (w : World) :
    Calls Tryz.prog 39 #[.string ⟨s.toArray⟩] w fun e w' => e = .returned (.string ⟨(tmT s).toArray⟩) ∧ w' = w := by
  obtain ⟨L, hL⟩ : ∃ L : Nat, L = s.length := ⟨_, rfl⟩
  have HL : Hid (L = s.length) := hL
  have hsz : ByteArray.size ⟨s.toArray⟩ = L := by rw [hL]; rfl
  have hLb : L ≤ 1000000 := by omega
  generalize hS : (⟨s.toArray⟩ : ByteArray) = S at hsz
  have HA : Hid (∀ i, i < L → ∀ w : World, (Instr.index 9 (.string S) (.int .i64 (i : Int))).run Tryz.prog w = .ok (.int .u8 ((s.getD i 0).toNat : Int)) w) := by
    show ∀ i, _
    intro i hi w
    exact str_atS s S hS i (by omega) w
  have HC : Hid (∀ a b, a ≤ b → b ≤ L → ∀ w : World, (Instr.sliceAt 9 (.string S) (some (.int .i64 (a : Int))) (some (.int .i64 (b : Int))) none).run Tryz.prog w = .ok (.string ⟨((s.take b).drop a).toArray⟩) w) := by
    show ∀ a, _
    intro a b h1 h2 w
    exact str_cut s S hS a b h1 (by omega) hs w
  clear hL hs hS
  go_enter Tryz.func39, Tryz.ntmps39
  go_wp2
  go_loop [3] (fun av => ∃ a : Nat, a ≤ L ∧ av = .int .i64 (a : Int) ∧ Hid (∀ i, i < a → s.getD i 0 = 32)) (fun av => L - (intOf av).toNat)
  case atStart => exact ⟨0, by omega, rfl, (by show ∀ i, _; intro i hi; omega)⟩
  case round =>
    obtain ⟨a, ha, rfl, HI⟩ := hrel
    by_cases hgo : a < L ∧ s.getD a 0 = 32
    · obtain ⟨hlt, hb⟩ := hgo
      have hd : decide ((a : Int) < (L : Int)) = true := decide_eq_true (by omega)
      have hiI : (a : Int) < (L : Int) := by omega
      have hat := HA.out a hlt
      rw [hb, show ((32 : UInt8).toNat : Int) = 32 from rfl] at hat
      have HB : Hid (s.getD a 0 = 32) := hb
      clear hb
      go_wp2
      go_round
      case rel => exact ⟨a + 1, by omega, by go_num, (by show ∀ i, _; intro i hi; rcases Nat.lt_or_ge i a with h | h; exact HI.out i h; rw [show i = a by omega]; exact HB.out)⟩
      case measure => simp [intOf] <;> omega
    · have HE : Hid (a = L ∨ s.getD a 0 ≠ 32) := by
        show _ ∨ _
        by_cases h : a = L
        · exact .inl h
        · exact .inr fun e => hgo ⟨by omega, e⟩
      have hcase : (decide ((a : Int) < (L : Int)) = false ∧ (L : Int) ≤ (a : Int)) ∨ (decide ((a : Int) < (L : Int)) = true ∧ (a : Int) < (L : Int) ∧ ∃ c : Nat, (∀ w : World, (Instr.index 9 (.string S) (.int .i64 (a : Int))).run Tryz.prog w = .ok (.int .u8 (c : Int)) w) ∧ ((c : Int) == 32) = false ∧ ¬ (c : Int) = 32) := by
        by_cases h : a < L
        · right
          have hne : s.getD a 0 ≠ 32 := fun e => hgo ⟨h, e⟩
          rcases byte_is (s.getD a 0) 32 with ⟨e, _⟩ | ⟨_, h2, h3⟩
          · exact absurd e hne
          · exact ⟨decide_eq_true (by omega), by omega, _, HA.out a h, h2, h3⟩
        · exact .inl ⟨decide_eq_false (by omega), by omega⟩
      clear hgo
      rcases hcase with ⟨c1, c2⟩ | ⟨c1, c2, c, c3, c4, c5⟩
      all_goals
        go_wp2
        go_loop [4] (fun bv => ∃ b : Nat, a ≤ b ∧ b ≤ L ∧ bv = .int .i64 (b : Int) ∧ Hid (∀ i, b ≤ i → i < L → s.getD i 0 = 32)) (fun bv => (intOf bv).toNat)
        case atStart => exact ⟨L, by omega, by omega, rfl, (by show ∀ i, _; intro i h1 h2; omega)⟩
        case round =>
          obtain ⟨b, hb1, hb2, rfl, HJ⟩ := hrel
          by_cases hgo : a < b ∧ s.getD (b - 1) 0 = 32
          · obtain ⟨hlt, hb⟩ := hgo
            obtain ⟨m, rfl⟩ : ∃ m, b = m + 1 := ⟨b - 1, by omega⟩
            obtain ⟨n, hn⟩ : ∃ n : Nat, n = m + 1 := ⟨_, rfl⟩
            rw [← hn]
            have hd : decide ((a : Int) < (n : Int)) = true := decide_eq_true (by omega)
            have hiI : (a : Int) < (n : Int) := by omega
            have xm : IntKind.i64.wrap ((n : Int) - 1) = (m : Int) := by rw [IntWalk.i64_in _ (by omega)]; omega
            have hat := HA.out m (by omega)
            rw [Nat.add_sub_cancel] at hb
            rw [hb, show ((32 : UInt8).toNat : Int) = 32 from rfl] at hat
            have HB : Hid (s.getD m 0 = 32) := hb
            have HNm : Hid (n = m + 1) := hn
            clear hb hn
            go_wp2
            go_round
            case rel => exact ⟨m, by have := HNm.out; omega, by have := HNm.out; omega, rfl, (by show ∀ i, _; intro i h1 h2; rcases Nat.lt_or_ge m i with h | h; exact HJ.out i (by omega) h2; rw [show i = m by omega]; exact HB.out)⟩
            case measure =>
              have := HNm.out
              simp [intOf]
              omega
          · have HE2 : Hid (b = a ∨ s.getD (b - 1) 0 ≠ 32) := by
              show _ ∨ _
              by_cases h : b = a
              · exact .inl h
              · exact .inr fun e => hgo ⟨by omega, e⟩
            have HT : Hid (tmT s = (s.take b).drop a) := by
              show _ = _
              have hl := HL.out
              exact tmT_part s a b HI.out hb1 (by omega) (by rw [← hl]; exact HE.out) (by rw [← hl]; exact HJ.out) HE2.out
            have hcut := HC.out a b hb1 hb2
            have hcase2 : (decide ((a : Int) < (b : Int)) = false ∧ (b : Int) ≤ (a : Int)) ∨ (decide ((a : Int) < (b : Int)) = true ∧ (a : Int) < (b : Int) ∧ ∃ m q : Nat, IntKind.i64.wrap ((b : Int) - 1) = (m : Int) ∧ (∀ w : World, (Instr.index 9 (.string S) (.int .i64 (m : Int))).run Tryz.prog w = .ok (.int .u8 (q : Int)) w) ∧ ((q : Int) == 32) = false ∧ ¬ (q : Int) = 32) := by
              by_cases h : a < b
              · right
                have hne : s.getD (b - 1) 0 ≠ 32 := fun e => hgo ⟨h, e⟩
                rcases byte_is (s.getD (b - 1) 0) 32 with ⟨e, _⟩ | ⟨_, h2, h3⟩
                · exact absurd e hne
                · exact ⟨decide_eq_true (by omega), by omega, b - 1, _, by rw [IntWalk.i64_in _ (by omega)]; omega, HA.out (b - 1) (by omega), h2, h3⟩
              · exact .inl ⟨decide_eq_false (by omega), by omega⟩
            clear hgo
            rcases hcase2 with ⟨e1, e2⟩ | ⟨e1, e2, m, q, e3, e4, e5, e6⟩
            all_goals
              go_wp2
              go_ret
              exact ⟨by rw [HT.out]; rfl, rfl⟩
end Go.Proofs.YtpoibhhijidobabGreatDoor

/- What the document's own parts of a text are: contracts of the reference of layer 15, third part. -/
namespace Go.Proofs.YtpoibhhijidobabGreatDoor
open Go.ChangeShapes Go.WideShapes Go.ChangeAt Go.RowKit
set_option linter.unusedSimpArgs false
set_option linter.unusedVariables false

theorem infoStr : (Tryz.prog.info? 9).map (fun i => (i.zero, i.size, i.bytes)) = some (some (.string ⟨#[]⟩), 1, 16) := by kernel_rfl
/-- Texts as cells. -/
def stC (ls : List (List UInt8)) : List Value := ls.map fun l => Value.string ⟨l.toArray⟩
theorem stC_next (ls : List (List UInt8)) (l : List UInt8) : stC ls ++ [Value.string ⟨l.toArray⟩] = stC (ls ++ [l]) := by simp [stC]
/-- A row of texts. -/
abbrev Rw.st (v : Value) (ls : List (List UInt8)) : Rw := ⟨9, 1, v, ls.length, stC ls⟩
theorem news1 {w : World} {e : TypeId} (u : Value) {b : Nat} (hb : b = w.heap.size) : ∀ j x, [u][j]? = some x → (w.alloc (.cells #[u] e)).cell? ((⟨b, 0, none⟩ : Addr).add j) = some x := by
  subst hb
  intro j x h
  cases j with
  | zero =>
    simp at h
    subst h
    have hh : (w.alloc (.cells #[u] e)).heap[w.heap.size]? = some (.cells #[u] e) := by
      show (w.heap.push _)[w.heap.size]? = _
      simp
    show World.cell? _ ⟨w.heap.size, 0, none⟩ = _
    unfold World.cell?
    rw [hh]
    simp
  | succ j => simp at h
/-- How far a text is cut. -/
def cutI (c : UInt8) (s : List UInt8) (L i f : Nat) (ps : List (List UInt8)) : Prop :=
  (i ≤ L ∧ f ≤ i ∧ (∀ k, f ≤ k → k < i → s.getD k 0 ≠ c) ∧ splL c s = ps ++ splL c (s.drop f)) ∨ (i = L + 1 ∧ splL c s = ps)

set_option maxHeartbeats 4000000 in
theorem cut15_any (s : List UInt8) (hs : s.length ≤ 1000000) (c : UInt8) (C : Int) (hC : C = (c.toNat : Int)) (w : World) :
    Calls Tryz.prog 38 #[.string ⟨s.toArray⟩, .int .u8 C] w fun e w' => ∃ v, e = .returned v ∧ OwnG w [Rw.st v (splL c s)] w' := by
  subst hC
  obtain ⟨ti, hti, hz0, hz1, hz2⟩ := info_parts infoStr
  obtain ⟨L, hL⟩ : ∃ L : Nat, L = s.length := ⟨_, rfl⟩
  have HL : Hid (L = s.length) := hL
  have hsz : ByteArray.size ⟨s.toArray⟩ = L := by rw [hL]; rfl
  have hLb : L ≤ 1000000 := by omega
  generalize hS : (⟨s.toArray⟩ : ByteArray) = S at hsz
  have HA : Hid (∀ i, i < L → ∀ w : World, (Instr.index 9 (.string S) (.int .i64 (i : Int))).run Tryz.prog w = .ok (.int .u8 ((s.getD i 0).toNat : Int)) w) := by
    show ∀ i, _
    intro i hi w
    exact str_atS s S hS i (by omega) w
  have HC : Hid (∀ a b, a ≤ b → b ≤ L → S.extract a b = ⟨((s.take b).drop a).toArray⟩) := by
    show ∀ a, _
    intro a b h1 h2
    rw [← hS]
    exact bytes_part s a b h1 (by omega)
  have hO0 : OwnG w [Rw.st (.slice none 0 0) []] w := (OwnG.start w).nil 9 1
  clear hL hs hS
  go_enter Tryz.func38, Tryz.ntmps38
  go_wp2
  go_loopw [5, 6, 7] (fun ov fv iv wx => ∃ (i f : Nat) (ps : List (List UInt8)), i ≤ L + 1 ∧ f ≤ L + 1 ∧ ps.length ≤ i ∧ iv = .int .i64 (i : Int) ∧ fv = .int .i64 (f : Int) ∧ Hid (cutI c s L i f ps) ∧ OwnG w [Rw.st ov ps] wx) (fun _ _ iv _ => L + 1 - (intOf iv).toNat)
  case atStart => exact ⟨0, 0, [], by omega, by omega, by simp, rfl, rfl, (by show cutI c s L 0 0 []; exact .inl ⟨by omega, by omega, by omega, rfl⟩), hO0⟩
  case round =>
    obtain ⟨i, f, ps, hi, hf, hps, rfl, rfl, HI, hO⟩ := hrel
    clear hO0
    by_cases hlt : i ≤ L
    · have hd : decide ((i : Int) ≤ (L : Int)) = true := decide_eq_true (by omega)
      have hiI : (i : Int) ≤ (L : Int) := by omega
      obtain ⟨-, hfi, hno, hsp⟩ : i ≤ L ∧ f ≤ i ∧ (∀ k, f ≤ k → k < i → s.getD k 0 ≠ c) ∧ splL c s = ps ++ splL c (s.drop f) := by
        rcases HI.out with h | h
        · exact h
        · omega
      by_cases hcut : i = L ∨ s.getD i 0 = c
      · have HI2 : Hid (cutI c s L (i + 1) (i + 1) (ps ++ [(s.take i).drop f])) := by
          show cutI _ _ _ _ _ _
          have hl := HL.out
          by_cases hiL : i = L
          · right
            refine ⟨by omega, ?_⟩
            rw [hsp, spl_end c s f (by omega) (fun k h1 h2 => hno k h1 (by omega)), hiL, hl]
          · left
            have hc2 : s.getD i 0 = c := by
              rcases hcut with h | h
              · exact absurd h hiL
              · exact h
            refine ⟨by omega, by omega, fun k h1 h2 => by omega, ?_⟩
            rw [hsp, spl_step c s f i hfi (by omega) hno hc2, List.append_assoc]
            rfl
        have hfI : (f : Int) ≤ (i : Int) := by omega
        have hcase : ((i : Int) == (L : Int)) = true ∧ (i : Int) = (L : Int) ∧ S.extract f L = S.extract f i ∨ (((i : Int) == (L : Int)) = false ∧ ¬ (i : Int) = (L : Int) ∧ ∃ q : Nat, (∀ w : World, (Instr.index 9 (.string S) (.int .i64 (i : Int))).run Tryz.prog w = .ok (.int .u8 (q : Int)) w) ∧ ((q : Int) == ((c.toNat : Nat) : Int)) = true ∧ (q : Int) = ((c.toNat : Nat) : Int)) := by
          by_cases h : i = L
          · left; rw [h]; exact ⟨by simp, rfl, rfl⟩
          · right
            have h2 : ¬ (i : Int) = (L : Int) := by omega
            have hc2 : s.getD i 0 = c := by
              rcases hcut with h' | h'
              · exact absurd h' h
              · exact h'
            refine ⟨by simpa using h2, h2, _, HA.out i (by omega), ?_, ?_⟩
            · rw [hc2]; simp
            · rw [hc2]
        have hct := HC.out f i hfi hlt
        obtain ⟨P, hP⟩ : ∃ P : List UInt8, P = (s.take i).drop f := ⟨_, rfl⟩
        rw [← hP] at hct HI2
        have HN : Hid _ := stC_next ps P
        have HP : Hid _ := hP
        clear hsp hno hcut hP HI
        generalize hq : (⟨P.toArray⟩ : ByteArray) = PB at hct
        have HQ : Hid (stC ps ++ [Value.string PB] = stC (ps ++ [P])) := by show _ = _; rw [← hq]; exact HN.out
        clear hq HN
        rw [hct] at hcase
        rcases hcase with ⟨c1, c2, c3⟩ | ⟨c1, c2, q, c3, c4, c5⟩
        all_goals
          go_wp2_with (at_builtin; go_must (refine wpList_append_E rfl _ _ 54 rfl 9 ti _ 1 16 Tryz.underlying54 hti hz0 hz1 hz2 rfl (by decide) _ ps.length (stC ps) rfl (hO.kept (growB _)) ⟨wr.heap.size, 0, none⟩ 1 1 [.string PB] rfl rfl (news1 _ rfl) (by intro u hu; simp at hu; subst hu; rfl) (by unfold maxLen; omega) (by omega) ?_))
          intro v6 w6 hO6 _
          rw [HQ.out] at hO6
          have hO7 : OwnG w [Rw.st v6 (ps ++ [P])] w6 := by
            have e : ps.length + 1 = (ps ++ [P]).length := by simp
            rw [e] at hO6
            exact hO6
          clear hO hO6
          go_wp2
          go_roundw
          case rel => exact ⟨i + 1, i + 1, ps ++ [P], by omega, by omega, by simp; omega, by go_num, by go_num, HI2, hO7⟩
          case measure => simp [intOf] <;> omega
      · have hiL : i < L := by omega
        have hne : s.getD i 0 ≠ c := fun e => hcut (.inr e)
        have HI2 : Hid (cutI c s L (i + 1) f ps) := by
          show cutI _ _ _ _ _ _
          refine .inl ⟨by omega, by omega, fun k h1 h2 => ?_, hsp⟩
          rcases Nat.lt_or_ge k i with h | h
          · exact hno k h1 h
          · rw [show k = i by omega]; exact hne
        have c1 : ((i : Int) == (L : Int)) = false := by
          have : ¬ (i : Int) = (L : Int) := by omega
          simpa using this
        have c2 : ¬ (i : Int) = (L : Int) := by omega
        have hat := HA.out i hiL
        rcases byte_is (s.getD i 0) c with ⟨e, _⟩ | ⟨_, h2, h3⟩
        · exact absurd e hne
        generalize (s.getD i 0).toNat = q at hat h2 h3
        clear hsp hno hcut HI hne
        go_wp2
        go_roundw
        case rel => exact ⟨i + 1, f, ps, by omega, hf, by omega, by go_num, rfl, HI2, hO⟩
        case measure => simp [intOf] <;> omega
    · have hd : decide ((i : Int) ≤ (L : Int)) = false := decide_eq_false (by omega)
      have hiI : (L : Int) < (i : Int) := by omega
      have HE : splL c s = ps := by
        rcases HI.out with h | h
        · omega
        · exact h.2
      rw [← HE] at hO
      go_wp2
      go_ret
      exact ⟨_, rfl, hO⟩
end Go.Proofs.YtpoibhhijidobabGreatDoor

/- Slices that read as rows of any values of one cell each. No program's text is named. -/
namespace Go.Proofs.YtpoibhhijidobabGreatDoor
open Go.ChangeShapes Go.WideShapes Go.ChangeAt Go.RowKit
set_option linter.unusedSimpArgs false
set_option linter.unusedVariables false

/-- A slice whose elements are these values. -/
def RdC (w : World) (v : Value) (xs : List Value) : Prop :=
  ∃ a cap, v = .slice a xs.length cap ∧ xs.length ≤ cap ∧ cap ≤ maxLen ∧ (a = none → cap = 0) ∧ (xs = [] ∨ ∃ b off, a = some ⟨b, off, none⟩ ∧ ∀ i, i < xs.length → w.cell? ⟨b, off + i, none⟩ = xs[i]?)
theorem RdC.nil (w : World) : RdC w (.slice none 0 0) [] := ⟨none, 0, rfl, Nat.le_refl _, by simp [maxLen], fun _ => rfl, .inl rfl⟩
theorem RdC.kept {w w' : World} {v : Value} {xs : List Value} (h : RdC w v xs) (hb : Below w.heap.size w w') : RdC w' v xs := by
  obtain ⟨a, c, e1, h2, h3, h4, h5⟩ := h
  refine ⟨a, c, e1, h2, h3, h4, h5.imp id ?_⟩
  rintro ⟨b, off, e2, hc⟩
  refine ⟨b, off, e2, fun i hi => ?_⟩
  have h6 := hc i hi
  have h7 : xs[i]? = some xs[i] := by simp [hi]
  rw [h7] at h6
  rw [hb.cell (World.block_lt_of_cell? _ _ h6), h6, h7]
theorem RdC.drew {w : World} {v : Value} {xs : List Value} (h : RdC w v xs) : RdC w.drew v xs := h.kept (Below.refl _ _).drew
theorem RdC.cellAt {w : World} {v : Value} {xs : List Value} (h : RdC w v xs) {i : Nat} (hi : i < xs.length) : ∃ b off cap, v = .slice (some ⟨b, off, none⟩) xs.length cap ∧ xs.length ≤ cap ∧ cap ≤ maxLen ∧ w.cell? ⟨b, off + i, none⟩ = some xs[i] := by
  obtain ⟨a, c, e1, h2, h3, h4, h5⟩ := h
  rcases h5 with h | ⟨b, off, e2, hc⟩
  · rw [h] at hi
    cases hi
  · refine ⟨b, off, c, by rw [e1, e2], h2, h3, ?_⟩
    rw [hc i hi]
    simp [hi]
theorem RdC.of_own {w : World} {base : Nat} {e : TypeId} {v : Value} {n : Nat} {xs : List Value} (h : w.ownsRow base e 1 v n xs) : RdC w v xs := by
  have hn : xs.length = n := by simpa using h.1
  subst hn
  rcases h.2 with ⟨rfl, h0⟩ | ⟨g, cap, cur, hv, hb, hg, hle, hm, hss, htk⟩
  · have : xs = [] := List.eq_nil_of_length_eq_zero h0
    subst this
    exact RdC.nil w
  · refine ⟨some ⟨g, 0, none⟩, cap, hv, hle, hm, (fun e => by cases e), ?_⟩
    by_cases h0 : xs = []
    · exact .inl h0
    · right
      refine ⟨g, 0, rfl, fun i hi => ?_⟩
      have h7 : xs[i]? = some xs[i] := by simp [hi]
      have := h.cells (by rw [hv]; rfl) i xs[i] h7
      have hp : (⟨g, 0, none⟩ : Addr).add i = ⟨g, 0 + i, none⟩ := by unfold Addr.add; split <;> simp_all
      rw [h7, ← hp]
      exact this
theorem OwnG.rdC {w0 w : World} {p : Rw} {L : List Rw} (h : OwnG w0 (p :: L) w) (hs : p.sz = 1) : RdC w p.v p.xs := by
  have := h.rows p (List.mem_cons_self ..)
  rw [hs] at this
  exact RdC.of_own this
/-- A row that was just written out. -/
theorem RdC.lit {w : World} {e : TypeId} (xs : List Value) {cs : Array Value} {n b : Nat} (h : cs = xs.toArray) (hn : n = xs.length) (hb : b = w.heap.size) (hm : xs.length ≤ maxLen) : RdC (w.alloc (.cells cs e)) (.slice (some ⟨b, 0, none⟩) n n) xs := by
  subst h hn hb
  refine ⟨_, _, rfl, Nat.le_refl _, hm, (fun h => by cases h), ?_⟩
  right
  refine ⟨_, 0, rfl, fun i hi => ?_⟩
  have hh : (w.alloc (.cells xs.toArray e)).heap[w.heap.size]? = some (.cells xs.toArray e) := by
    show (w.heap.push _)[w.heap.size]? = _
    simp
  unfold World.cell?
  rw [hh]
  simp [hi]
end Go.Proofs.YtpoibhhijidobabGreatDoor

/- Patterns: what they are, and which may be written: plain mathematics, and how they lie in memory. No program's text is named. -/
namespace Go.Proofs.YtpoibhhijidobabGreatDoor
open Go.ChangeShapes Go.WideShapes Go.ChangeAt Go.RowKit
set_option linter.unusedSimpArgs false
set_option linter.unusedVariables false

/-- A pattern: its name, which static keys are known, its messages: who speaks, and the tokens' numbers. -/
structure Ptn where
  name : List UInt8
  ki : Bool
  kr : Bool
  ms : List (Bool × List Int)
def Ptn.tk (p : Ptn) (m : Nat) : List Int := (p.ms.getD m (false, [])).2
def Ptn.ini (p : Ptn) (m : Nat) : Bool := (p.ms.getD m (false, [])).1
def Ptn.n (p : Ptn) : Nat := p.ms.length
def tkB (x : Int) : Bool := decide (1 ≤ x) && decide (x ≤ 10)
def wrM (t : List Int) : Bool := decide (1 ≤ t.length) && decide (t.length ≤ 12) && t.all tkB
def wrB (p : Ptn) : Bool := nmB p.name && decide (1 ≤ p.n) && decide (p.n ≤ 8) && p.ms.all fun m => wrM m.2
theorem wr_false {p : Ptn} {k : Nat} (hk : k < p.n) (h : wrM (p.tk k) = false) : wrB p = false := by
  have h2 : (p.ms.all fun m => wrM m.2) = false := by
    rw [List.all_eq_false]
    have hk2 : k < p.ms.length := hk
    refine ⟨p.ms[k]'hk2, List.getElem_mem hk2, ?_⟩
    have e : p.tk k = (p.ms[k]'hk2).2 := by
      unfold Ptn.tk
      simp [hk2]
    rw [← e, h]
    simp
  unfold wrB
  rw [h2, Bool.and_false]
theorem wr_true {p : Ptn} (h1 : nmB p.name = true) (h2 : 1 ≤ p.n) (h3 : p.n ≤ 8) (h : ∀ k, k < p.n → wrM (p.tk k) = true) : wrB p = true := by
  have h4 : (p.ms.all fun m => wrM m.2) = true := by
    rw [List.all_eq_true]
    intro m hm
    obtain ⟨k, hk, rfl⟩ := List.mem_iff_getElem.1 hm
    have := h k hk
    unfold Ptn.tk at this
    simpa [hk] using this
  unfold wrB
  rw [h1, h4, decide_eq_true h2, decide_eq_true h3]
  rfl
theorem wrM_false {t : List Int} {j : Nat} (hj : j < t.length) (h : tkB (t.getD j 0) = false) : wrM t = false := by
  have h2 : t.all tkB = false := by
    rw [List.all_eq_false]
    refine ⟨t.getD j 0, ?_, by rw [h]; simp⟩
    simp [hj]
  unfold wrM
  rw [h2, Bool.and_false]
theorem wrM_true {t : List Int} (h1 : 1 ≤ t.length) (h2 : t.length ≤ 12) (h : ∀ j, j < t.length → tkB (t.getD j 0) = true) : wrM t = true := by
  have h4 : t.all tkB = true := by
    rw [List.all_eq_true]
    intro x hx
    obtain ⟨k, hk, rfl⟩ := List.mem_iff_getElem.1 hx
    have := h k hk
    simpa [hk] using this
  unfold wrM
  rw [h4, decide_eq_true h1, decide_eq_true h2]
  rfl
/-! ### In memory -/
/-- The two slices of a pattern read as its messages. -/
structure PtR (w : World) (p : Ptn) (vi vl : Value) : Prop where
  inits : RdC w vi (p.ms.map fun m => Value.bool m.1)
  rows : ∃ vs : List Value, RdC w vl vs ∧ vs.length = p.n ∧ ∀ k (h : k < vs.length), RdI .i64 w vs[k] (p.tk k)
/-- A pattern's cells. -/
def ptC (p : Ptn) (vi vl : Value) : List Value := [.string ⟨p.name.toArray⟩, .bool p.ki, .bool p.kr, vi, vl]
theorem PtR.kept {w w' : World} {p : Ptn} {vi vl : Value} (h : PtR w p vi vl) (hb : Below w.heap.size w w') : PtR w' p vi vl := by
  obtain ⟨vs, h1, h2, h3⟩ := h.rows
  exact ⟨h.inits.kept hb, vs, h1.kept hb, h2, fun k hk => (h3 k hk).kept hb⟩
theorem PtR.len {w : World} {p : Ptn} {vi vl : Value} (h : PtR w p vi vl) : ∃ a c, vl = .slice a p.n c ∧ p.n ≤ c ∧ c ≤ maxLen := by
  obtain ⟨vs, ⟨a, c, e, h2, h3, -⟩, hl, -⟩ := h.rows
  rw [hl] at e h2
  exact ⟨a, c, e, h2, h3⟩
theorem PtR.lenI {w : World} {p : Ptn} {vi vl : Value} (h : PtR w p vi vl) : ∃ a c, vi = .slice a p.n c ∧ p.n ≤ c ∧ c ≤ maxLen := by
  obtain ⟨a, c, e, h2, h3, -⟩ := h.inits
  rw [List.length_map] at e h2
  exact ⟨a, c, e, h2, h3⟩
theorem PtR.row {w : World} {p : Ptn} {vi : Value} {a : Option Addr} {n c : Nat} (h : PtR w p vi (.slice a n c)) {m : Nat} (hm : m < p.n) : ∃ g o vr, a = some ⟨g, o, none⟩ ∧ w.cell? ⟨g, o + m, none⟩ = some vr ∧ RdI .i64 w vr (p.tk m) := by
  obtain ⟨vs, h1, hl, h3⟩ := h.rows
  have hm2 : m < vs.length := by rw [hl]; exact hm
  obtain ⟨g, o, c', ev, -, -, hc⟩ := h1.cellAt hm2
  simp only [Value.slice.injEq] at ev
  obtain ⟨rfl, -, -⟩ := ev
  exact ⟨g, o, _, rfl, hc, h3 m hm2⟩
theorem PtR.who {w : World} {p : Ptn} {vl : Value} {a : Option Addr} {n c : Nat} (h : PtR w p (.slice a n c) vl) {m : Nat} (hm : m < p.n) : ∃ g o, a = some ⟨g, o, none⟩ ∧ w.cell? ⟨g, o + m, none⟩ = some (.bool (p.ini m)) := by
  have hm2 : m < (p.ms.map fun m => Value.bool m.1).length := by rw [List.length_map]; exact hm
  obtain ⟨g, o, c', ev, -, -, hc⟩ := h.inits.cellAt hm2
  simp only [Value.slice.injEq] at ev
  obtain ⟨rfl, -, -⟩ := ev
  refine ⟨g, o, rfl, ?_⟩
  rw [hc]
  have : m < p.ms.length := hm
  simp [Ptn.ini, this]
end Go.Proofs.YtpoibhhijidobabGreatDoor

/- How often a token was said, and which tokens may come: plain mathematics. No program's text is named. -/
namespace Go.Proofs.YtpoibhhijidobabGreatDoor
set_option linter.unusedSimpArgs false
set_option linter.unusedVariables false

/-- How many of the first j numbers are t. -/
def ctN (l : List Int) (t : Int) : Nat → Nat
  | 0 => 0
  | j + 1 => ctN l t j + if l.getD j 0 = t then 1 else 0
theorem ctN_le (l : List Int) (t : Int) : ∀ j, ctN l t j ≤ j
  | 0 => Nat.le_refl _
  | j + 1 => by
    have := ctN_le l t j
    unfold ctN
    split <;> omega
/-- How often a side said t in a message, ahead of a place. -/
def saR (p : Ptn) (b : Bool) (t : Int) (i j : Nat) : Nat := if p.ini i = b then ctN (p.tk i) t j else 0
theorem saR_le (p : Ptn) (b : Bool) (t : Int) (i j : Nat) : saR p b t i j ≤ j := by
  have := ctN_le (p.tk i) t j
  unfold saR
  split <;> omega
theorem saR_next (p : Ptn) (b : Bool) (t : Int) (i j : Nat) : saR p b t i (j + 1) = saR p b t i j + if p.ini i = b ∧ (p.tk i).getD j 0 = t then 1 else 0 := by
  unfold saR
  by_cases h : p.ini i = b
  · rw [if_pos h, if_pos h]
    show ctN (p.tk i) t j + _ = _
    by_cases h2 : (p.tk i).getD j 0 = t
    · rw [if_pos h2, if_pos ⟨h, h2⟩]
    · rw [if_neg h2, if_neg (fun e => h2 e.2)]
  · rw [if_neg h, if_neg h, if_neg (fun e => h e.1)]
def saS (p : Ptn) (b : Bool) (t : Int) : Nat → Nat
  | 0 => 0
  | i + 1 => saS p b t i + saR p b t i (p.tk i).length
/-- Written patterns are small. -/
structure PtS (p : Ptn) : Prop where
  n : p.n ≤ 8
  one : 1 ≤ p.n
  t : ∀ i, i < p.n → (p.tk i).length ≤ 12
  x : ∀ i, i < p.n → ∀ j, j < (p.tk i).length → 1 ≤ (p.tk i).getD j 0 ∧ (p.tk i).getD j 0 ≤ 10
theorem PtS.of {p : Ptn} (h : wrB p = true) : PtS p := by
  unfold wrB at h
  simp only [Bool.and_eq_true, decide_eq_true_eq] at h
  have hm : ∀ i, i < p.n → wrM (p.tk i) = true := fun i hi => by
    have h2 := List.all_eq_true.1 h.2
    have hi2 : i < p.ms.length := hi
    have := h2 (p.ms[i]'hi2) (List.getElem_mem hi2)
    unfold Ptn.tk
    simpa [hi2] using this
  refine ⟨h.1.2, h.1.1.2, fun i hi => ?_, fun i hi j hj => ?_⟩
  · have := hm i hi
    unfold wrM at this
    simp only [Bool.and_eq_true, decide_eq_true_eq] at this
    exact this.1.2
  · have := hm i hi
    unfold wrM at this
    simp only [Bool.and_eq_true, decide_eq_true_eq] at this
    have h3 := List.all_eq_true.1 this.2 ((p.tk i).getD j 0) (by simp [hj])
    unfold tkB at h3
    simpa using h3
theorem saS_le {p : Ptn} (h : PtS p) (b : Bool) (t : Int) : ∀ i, i ≤ p.n → saS p b t i ≤ 12 * i
  | 0, _ => Nat.le_refl _
  | i + 1, hi => by
    have h1 := saS_le h b t i (by omega)
    have h2 := saR_le p b t i (p.tk i).length
    have h3 := h.t i (by omega)
    show saS p b t i + _ ≤ _
    omega
/-- How often a side said t ahead of a place. -/
def saN (p : Ptn) (b : Bool) (t : Int) (m k : Nat) : Nat := saS p b t m + saR p b t m (min k (p.tk m).length)
theorem saN_le {p : Ptn} (h : PtS p) (b : Bool) (t : Int) (m k : Nat) (hm : m < p.n) : saN p b t m k ≤ 96 := by
  have h1 := saS_le h b t m (by omega)
  have h2 := saR_le p b t m (min k (p.tk m).length)
  have h3 := h.t m hm
  have h4 := h.n
  unfold saN
  omega
/-- Has a side a key ahead of a place? -/
def hsB (p : Ptn) (b : Bool) (t : Int) (m k : Nat) : Bool := (decide (t = 2) && (if b then p.ki else p.kr)) || decide (0 < saN p b t m k)
/-- May the k-th token of a message come? -/
def myB (p : Ptn) (m k : Nat) : Bool :=
  let t := (p.tk m).getD k 0
  let me := p.ini m
  let none2 := decide (saN p true t m k + saN p false t m k = 0)
  if t = 1 ∨ t = 2 ∨ t = 8 then !hsB p me t m k
  else if t = 3 then hsB p true 1 m k && hsB p false 1 m k && none2
  else if t = 4 then hsB p true 1 m k && hsB p false 2 m k && none2
  else if t = 5 then hsB p true 2 m k && hsB p false 1 m k && none2
  else if t = 6 then hsB p true 2 m k && hsB p false 2 m k && none2
  else if t = 7 then (hsB p me 1 m k || hsB p me 8 m k) && none2
  else if t = 9 then hsB p (!me) 8 m k && decide (saN p me t m k = 0)
  else hsB p (!me) 2 m k && decide (saN p me t m k = 0)
/-- Do all messages keep the rules? -/
def ckM (p : Ptn) (m : Nat) : Bool := decide (p.ini m = decide (m % 2 = 0)) && (List.range (p.tk m).length).all fun k => myB p m k
def ckQ (p : Ptn) : Bool := (List.range p.n).all fun m => ckM p m
end Go.Proofs.YtpoibhhijidobabGreatDoor

/- A pattern's secrets: plain mathematics. No program's text is named. -/
namespace Go.Proofs.YtpoibhhijidobabGreatDoor
set_option linter.unusedSimpArgs false
set_option linter.unusedVariables false

/-- The keys of a token's secret; o: the other side. -/
def scK (x : Int) (o : Bool) : List (Bool × Int) :=
  if x = 3 then [(true, 1), (false, 1)] else if x = 4 then [(true, 1), (false, 2)] else if x = 5 then [(true, 2), (false, 1)] else if x = 6 then [(true, 2), (false, 2)]
  else if x = 7 then [(false, 7)] else if x = 9 then [(o, 8)] else if x = 10 then [(o, 2)] else []
/-- The secrets of a message's first tokens. -/
def scR (p : Ptn) (i : Nat) : Nat → List (Int × List (Bool × Int))
  | 0 => []
  | j + 1 => scR p i j ++ (if scK ((p.tk i).getD j 0) (!p.ini i) = [] then [] else [((p.tk i).getD j 0, scK ((p.tk i).getD j 0) (!p.ini i))])
theorem scR_len (p : Ptn) (i : Nat) : ∀ j, (scR p i j).length ≤ j
  | 0 => Nat.le_refl _
  | j + 1 => by
    have := scR_len p i j
    unfold scR
    rw [List.length_append]
    split <;> simp <;> omega
def scS (p : Ptn) : Nat → List (Int × List (Bool × Int))
  | 0 => []
  | i + 1 => scS p i ++ scR p i (p.tk i).length
theorem scS_len {p : Ptn} (h : PtS p) : ∀ i, i ≤ p.n → (scS p i).length ≤ 12 * i
  | 0, _ => Nat.le_refl _
  | i + 1, hi => by
    have h1 := scS_len h i (by omega)
    have h2 := scR_len p i (p.tk i).length
    have h3 := h.t i (by omega)
    unfold scS
    rw [List.length_append]
    omega
def secL (p : Ptn) : List (Int × List (Bool × Int)) := if wrB p then scS p p.n else []
/-! ### In memory -/
/-- Keys as cells; secrets as cells, with the slices of their keys. -/
def kyC (l : List (Bool × Int)) : List Value := l.flatMap fun k => [Value.bool k.1, .int .i64 k.2]
def seX (l : List ((Int × List (Bool × Int)) × Value)) : List Value := l.flatMap fun e => [Value.int .i64 e.1.1, e.2]
def seK (ty : TypeId) (l : List ((Int × List (Bool × Int)) × Value)) : List Rw := l.reverse.map fun e => ⟨ty, 2, e.2, e.1.2.length, kyC e.1.2⟩
theorem seX_next (l : List ((Int × List (Bool × Int)) × Value)) (t : Int) (k : List (Bool × Int)) (v : Value) : seX l ++ [Value.int .i64 t, v] = seX (l ++ [((t, k), v)]) := by simp [seX]
theorem seK_next (ty : TypeId) (l : List ((Int × List (Bool × Int)) × Value)) (t : Int) (k : List (Bool × Int)) (v : Value) : (⟨ty, 2, v, k.length, kyC k⟩ : Rw) :: seK ty l = seK ty (l ++ [((t, k), v)]) := by simp [seK]
theorem OwnG.lit {w0 w : World} {L : List Rw} (h : OwnG w0 L w) (e : TypeId) (sz n b : Nat) (xs : List Value) (cs : Array Value) (hcs : cs = xs.toArray) (hb : b = w.heap.size) (hm : n ≤ maxLen) (hs : xs.length = n * sz) : OwnG w0 (⟨e, sz, .slice (some ⟨b, 0, none⟩) n n, n, xs⟩ :: L) (w.alloc (.cells cs e)) := by
  subst hcs hb
  refine h.fresh (p := ⟨e, sz, .slice (some ⟨w.heap.size, 0, none⟩) n n, n, xs⟩) ?_ (growB _)
  have := World.ownsRow_lit (base := w.heap.size) (e := e) (size := sz) w xs.toArray n (Nat.le_refl _) hm (by simpa using hs)
  simpa using this
theorem news2 {w : World} {e : TypeId} (u v : Value) {b : Nat} (hb : b = w.heap.size) : ∀ j x, [u, v][j]? = some x → (w.alloc (.cells #[u, v] e)).cell? ((⟨b, 0, none⟩ : Addr).add j) = some x := by
  subst hb
  intro j x h
  have hh : (w.alloc (.cells #[u, v] e)).heap[w.heap.size]? = some (.cells #[u, v] e) := by
    show (w.heap.push _)[w.heap.size]? = _
    simp
  have hp : (⟨w.heap.size, 0, none⟩ : Addr).add j = ⟨w.heap.size, j, none⟩ := by unfold Addr.add; split <;> simp_all
  rw [hp]
  unfold World.cell?
  rw [hh]
  simpa using h
end Go.Proofs.YtpoibhhijidobabGreatDoor

/- A pattern's text: plain mathematics. No program's text is named. -/
namespace Go.Proofs.YtpoibhhijidobabGreatDoor
set_option linter.unusedSimpArgs false
set_option linter.unusedVariables false

/-- The tokens' words. -/
def wdL : List (List UInt8) := [[], [101], [115], [101, 101], [101, 115], [115, 101], [115, 115], [112, 115, 107], [101, 49], [101, 107, 101, 109], [115, 107, 101, 109]]
theorem wdL_len : ∀ k, (wdL.getD k []).length ≤ 4 := fun k => by
  by_cases h : k < 11
  · have : ∀ k : Fin 11, (wdL.getD k.val []).length ≤ 4 := by decide
    exact this ⟨k, h⟩
  · have : wdL.getD k [] = [] := by
      have h2 : wdL.length ≤ k := by show 11 ≤ k; omega
      simp [List.getElem?_eq_none h2]
    rw [this]
    simp
/-- What stands ahead of the messages. -/
def txA (p : Ptn) : List UInt8 := p.name ++ [58, 10] ++ (if p.ki then [32, 32, 45, 62, 32, 115, 10] else []) ++ (if p.kr then [32, 32, 60, 45, 32, 115, 10] else []) ++ (if p.ki || p.kr then [32, 32, 46, 46, 46, 10] else [])
/-- The first tokens of a row. -/
def txR (t : List Int) : Nat → List UInt8
  | 0 => []
  | j + 1 => txR t j ++ (if 0 < j then [44, 32] else []) ++ wdL.getD (t.getD j 0).toNat []
def txD (b : Bool) : List UInt8 := if b then [32, 32, 45, 62, 32] else [32, 32, 60, 45, 32]
def txM (p : Ptn) (i : Nat) : List UInt8 := txD (p.ini i) ++ txR (p.tk i) (p.tk i).length ++ [10]
def txS (p : Ptn) : Nat → List UInt8
  | 0 => []
  | i + 1 => txS p i ++ txM p i
def txT (p : Ptn) : List UInt8 := if wrB p then txA p ++ txS p p.n else []
theorem txR_len (t : List Int) : ∀ j, (txR t j).length ≤ 6 * j
  | 0 => Nat.le_refl _
  | j + 1 => by
    have h1 := txR_len t j
    have h2 := wdL_len (t.getD j 0).toNat
    unfold txR
    rw [List.length_append, List.length_append]
    have h3 : (if 0 < j then ([44, 32] : List UInt8) else []).length ≤ 2 := by split <;> simp
    omega
theorem txD_len (b : Bool) : (txD b).length = 5 := by cases b <;> rfl
theorem txS_len {p : Ptn} (h : PtS p) : ∀ i, i ≤ p.n → (txS p i).length ≤ 78 * i
  | 0, _ => Nat.le_refl _
  | i + 1, hi => by
    have h1 := txS_len h i (by omega)
    have h2 := txR_len (p.tk i) (p.tk i).length
    have h3 := h.t i (by omega)
    have h4 := txD_len (p.ini i)
    unfold txS txM
    rw [List.length_append, List.length_append, List.length_append, List.length_singleton]
    omega
theorem txA_len {p : Ptn} (h : p.name.length ≤ 32) : (txA p).length ≤ 60 := by
  unfold txA
  cases p.ki <;> cases p.kr <;> simp <;> omega
end Go.Proofs.YtpoibhhijidobabGreatDoor

/- Patterns, keys and texts that come in: what a law's arguments of these kinds are. -/
namespace Go.Proofs.YtpoibhhijidobabGreatDoor
open Go.ChangeShapes Go.WideShapes Go.ChangeAt Go.RowKit
set_option linter.unusedSimpArgs false
set_option linter.unusedVariables false

/-- A slice of numbers that came in. -/
theorem rdI_open {H : Type} {enc : TypeId × Value → H} {P : Program} {W : World} {base fuel : Nat} {spare : Nat → Bool} {held : Bool} {t e : TypeId} {k : IntKind} {v : Value} {x : DataW H × List MemPlace} (ht : P.underlying t = some (.slice e)) (he : P.underlying e = some (.int k)) (hc : P.cellsOf e = 1)
    (h : DataW.trod enc P W base spare held fuel t [v] = some x) : ∃ l, RdI k W v l ∧ ∀ n ∈ l, (Lit.int k n).wf = true := by
  rcases open_ints ht he hc h with ⟨hcs, _⟩ | ⟨a, len, cap, zs, hcs, _, hl, hm, hz, _, hcell, hwz⟩
  · simp at hcs
    subst hcs
    exact ⟨[], RdI.nil k W, by simp⟩
  · simp at hcs
    subst hcs
    have hzl : len ≤ zs.length := by rw [hz]; split <;> omega
    have hlen : (zs.take len).length = len := by simp; omega
    refine ⟨zs.take len, ⟨_, cap, by rw [hlen], by rw [hlen]; exact hl, hm, (fun h => by cases h), ?_⟩, fun n hn => hwz n (List.mem_of_mem_take hn)⟩
    by_cases h0 : len = 0
    · left; exact List.eq_nil_of_length_eq_zero (by rw [hlen]; exact h0)
    · right
      obtain ⟨b, off, spot⟩ := a
      have hspot : spot = none := by simpa [Addr.add] using World.cell?_spot (hcell 0 (by omega))
      subst hspot
      refine ⟨b, off, rfl, fun i hi => ?_⟩
      rw [hlen] at hi
      have h1 := hcell i (by omega)
      have hplain : (⟨b, off, none⟩ : Addr).add i = ⟨b, off + i, none⟩ := by unfold Addr.add; split <;> simp_all
      rw [hplain] at h1
      rw [h1]
      simp [hi]

/-- A slice of messages, as package pattern has it: who speaks and the tokens, side by side. -/
structure MsR (w : World) (v : Value) (p : Ptn) : Prop where
  form : ∃ a cap, v = .slice a p.n cap ∧ p.n ≤ cap ∧ cap ≤ maxLen ∧ (p.n = 0 ∨ ∃ b off, a = some ⟨b, off, none⟩ ∧ ∀ k, k < p.n → ∃ vt, w.cell? ⟨b, off + 2 * k, none⟩ = some (.bool (p.ini k)) ∧ w.cell? ⟨b, off + (2 * k + 1), none⟩ = some vt ∧ RdI .i64 w vt (p.tk k))
/-- All tokens are numbers of 64 bits. -/
def PtW (p : Ptn) : Prop := ∀ k, ∀ x ∈ p.tk k, (Lit.int .i64 x).wf = true
theorem MsR.kept {w w' : World} {v : Value} {p : Ptn} (h : MsR w v p) (hb : Below w.heap.size w w') : MsR w' v p := by
  obtain ⟨a, cap, e, h1, h2, h3⟩ := h.form
  refine ⟨a, cap, e, h1, h2, h3.imp id ?_⟩
  rintro ⟨b, off, e2, hc⟩
  refine ⟨b, off, e2, fun k hk => ?_⟩
  obtain ⟨vt, c1, c2, c3⟩ := hc k hk
  refine ⟨vt, ?_, ?_, c3.kept hb⟩
  · rw [hb.cell (World.block_lt_of_cell? _ _ c1)]
    exact c1
  · rw [hb.cell (World.block_lt_of_cell? _ _ c2)]
    exact c2
/-- A pattern's cells, as package pattern has it. -/
def paC (p : Ptn) (vm : Value) : List Value := [.string ⟨p.name.toArray⟩, .bool p.ki, .bool p.kr, vm]
/-- Keys: whose, and of which kind. -/
def KyR (w : World) (v : Value) (ks : List (Bool × Int)) : Prop :=
  ∃ a cap, v = .slice a ks.length cap ∧ ks.length ≤ cap ∧ cap ≤ maxLen ∧ (ks = [] ∨ ∃ b off, a = some ⟨b, off, none⟩ ∧ ∀ k (h : k < ks.length), w.cell? ⟨b, off + 2 * k, none⟩ = some (.bool ks[k].1) ∧ w.cell? ⟨b, off + (2 * k + 1), none⟩ = some (.int .i64 ks[k].2))
theorem KyR.kept {w w' : World} {v : Value} {ks : List (Bool × Int)} (h : KyR w v ks) (hb : Below w.heap.size w w') : KyR w' v ks := by
  obtain ⟨a, cap, e, h1, h2, h3⟩ := h
  refine ⟨a, cap, e, h1, h2, h3.imp id ?_⟩
  rintro ⟨b, off, e2, hc⟩
  refine ⟨b, off, e2, fun k hk => ?_⟩
  obtain ⟨c1, c2⟩ := hc k hk
  refine ⟨?_, ?_⟩
  · rw [hb.cell (World.block_lt_of_cell? _ _ c1)]
    exact c1
  · rw [hb.cell (World.block_lt_of_cell? _ _ c2)]
    exact c2
theorem add_two {b off i : Nat} : (⟨b, off, none⟩ : Addr).add (i * 2) = ⟨b, off + 2 * i, none⟩ := by
  unfold Addr.add
  split
  · simp_all
  · simp [Nat.mul_comm]
theorem add_two1 {b off i : Nat} : (⟨b, off, none⟩ : Addr).add (i * 2 + 1) = ⟨b, off + (2 * i + 1), none⟩ := by
  unfold Addr.add
  split
  · simp_all
  · simp [Nat.mul_comm]

theorem array4x {α : Type} {cs : Array α} (h : cs.size = 4) : ∃ c0 c1 c2 c3, cs = #[c0, c1, c2, c3] := by
  obtain ⟨l⟩ := cs
  match l, h with
  | [c0, c1, c2, c3], _ => exact ⟨c0, c1, c2, c3, rfl⟩

set_option maxRecDepth 100000 in
set_option maxHeartbeats 1000000 in
theorem pat_open {H : Type} {enc : TypeId × Value → H} {W : World} {r : Reach} {b0 base : Nat} {spare : Nat → Bool} {held : Bool} {v : Value} {d : DataW H} {pl : List MemPlace} (hv : Value.okWide Tryz.prog W r b0 25 v) (h : DataW.Trod enc Tryz.prog W base spare held 25 v d pl) :
    ∃ (p : Ptn) (vm : Value), v = .agg (paC p vm).toArray ∧ MsR W vm p ∧ PtW p ∧ p.name.length ≤ maxLen := by
  obtain ⟨cs, rfl, hsz⟩ := okWide_struct Tryz.underlying25 hv
  have k0 : Tryz.prog.cellsOf 25 = 4 := by kernel_rfl
  rw [k0] at hsz
  obtain ⟨c0, c1, c2, c3, rfl⟩ := array4x hsz
  obtain ⟨fuel, hf⟩ := h
  obtain ⟨y0, y1, y2, n, -, -, h0, h1, h2⟩ := Deep.trod_struct3 Tryz.underlying25 hf
  have k1 : Tryz.prog.cellsOf 9 = 1 := by kernel_rfl
  have k2 : Tryz.prog.cellsOf 22 = 2 := by kernel_rfl
  have k3 : Tryz.prog.cellsOf 23 = 1 := by kernel_rfl
  have k4 : Tryz.prog.cellsOf 4 = 1 := by kernel_rfl
  have h0' : DataW.trod enc Tryz.prog W base spare held n 9 [c0] = some y0 := by simpa [Value.cells, k1] using h0
  have h1' : DataW.trod enc Tryz.prog W base spare held n 22 [c1, c2] = some y1 := by simpa [Value.cells, k2] using h1
  have h2' : DataW.trod enc Tryz.prog W base spare held n 23 [c3] = some y2 := by simpa [Value.cells, k3] using h2
  clear h0 h1 h2 hf hv hsz
  obtain ⟨s, e0, -, hs⟩ := DataW.trod_string Tryz.underlying9 h0'
  simp at e0
  subst e0
  obtain ⟨xs, m, -, -, -, hxl, hxe⟩ := DataW.trod_array Tryz.underlying22 h1'
  have a0 := hxe 0 (by decide)
  have a1 := hxe 1 (by decide)
  simp only [k4] at a0 a1
  match xs, hxl, a0, a1 with
  | [z0, z1], _, a0, a1 =>
    obtain ⟨q0, e1, -⟩ := DataW.trod_bool Tryz.underlying4 (x := z0) (cs := [c1]) a0
    obtain ⟨q1, e2, -⟩ := DataW.trod_bool Tryz.underlying4 (x := z1) (cs := [c2]) a1
    simp at e1 e2
    subst e1 e2
    have hname : (⟨s.data.toList.toArray⟩ : ByteArray) = s := by simp
    rcases Deep.open_slice_pairs Tryz.underlying23 Tryz.underlying48 (by kernel_rfl) rfl rfl (by kernel_rfl) (by kernel_rfl) h2' with ⟨e, -⟩ | ⟨a, len, cap, mm, n2, V0, V1, D0, D1, P0, P1, e, -, hl, hm, hmm, -, hc⟩
    · simp at e
      subst e
      refine ⟨⟨s.data.toList, q0, q1, []⟩, .slice none 0 0, by simp [paC], ⟨none, 0, rfl, Nat.le_refl _, Nat.zero_le _, .inl rfl⟩, (fun k x hx => by simp [Ptn.tk] at hx), by simpa using hs⟩
    · simp at e
      subst e
      have hlm : len ≤ mm := by rw [hmm]; split <;> omega
      have hall : ∀ i : Nat, ∃ q : Bool × List Int, i < len → W.cell? (a.add (i * 2)) = some (.bool q.1) ∧ W.cell? (a.add (i * 2 + 1)) = some (V1 i) ∧ RdI .i64 W (V1 i) q.2 ∧ ∀ x ∈ q.2, (Lit.int .i64 x).wf = true := fun i => by
        by_cases hi : i < len
        · obtain ⟨g1, g2, g3, g4⟩ := hc i (by omega)
          obtain ⟨bq, eb, -⟩ := DataW.trod_bool Tryz.underlying4 g3
          simp at eb
          obtain ⟨tl, ht, hw⟩ := rdI_open Tryz.underlying46 Tryz.underlying64 (by kernel_rfl) g4
          exact ⟨(bq, tl), fun _ => ⟨by rw [g1, eb], g2, ht, hw⟩⟩
        · exact ⟨(false, []), fun h => absurd h hi⟩
      obtain ⟨F, hF⟩ := Classical.axiomOfChoice hall
      refine ⟨⟨s.data.toList, q0, q1, (List.range len).map F⟩, .slice (some a) len cap, by simp [paC], ?_, ?_, by simpa using hs⟩
      · refine ⟨some a, cap, by simp [Ptn.n], by simpa [Ptn.n] using hl, hm, ?_⟩
        by_cases h0 : len = 0
        · left
          simp [Ptn.n, h0]
        · right
          obtain ⟨b, off, spot⟩ := a
          have hspot : spot = none := by simpa [Addr.add] using World.cell?_spot (hF 0 (by omega)).1
          subst hspot
          refine ⟨b, off, rfl, fun k hk => ?_⟩
          have hk' : k < len := by simpa [Ptn.n] using hk
          obtain ⟨g1, g2, g3, -⟩ := hF k hk'
          rw [add_two] at g1
          rw [add_two1] at g2
          refine ⟨V1 k, ?_, g2, ?_⟩
          · rw [g1]
            simp [Ptn.ini, hk']
          · have : Ptn.tk ⟨s.data.toList, q0, q1, (List.range len).map F⟩ k = (F k).2 := by simp [Ptn.tk, hk']
            rw [this]
            exact g3
      · intro k x hx
        by_cases hk : k < len
        · have : Ptn.tk ⟨s.data.toList, q0, q1, (List.range len).map F⟩ k = (F k).2 := by simp [Ptn.tk, hk]
          rw [this] at hx
          exact (hF k hk).2.2.2 x hx
        · have : Ptn.tk ⟨s.data.toList, q0, q1, (List.range len).map F⟩ k = [] := by simp [Ptn.tk, hk]
          rw [this] at hx
          cases hx

set_option maxRecDepth 100000 in
set_option maxHeartbeats 1000000 in
theorem keys_open {H : Type} {enc : TypeId × Value → H} {W : World} {base fuel : Nat} {spare : Nat → Bool} {held : Bool} {v : Value} {x : DataW H × List MemPlace} (h : DataW.trod enc Tryz.prog W base spare held fuel 39 [v] = some x) :
    ∃ ks, KyR W v ks ∧ ∀ q ∈ ks, (Lit.int .i64 q.2).wf = true := by
  rcases Deep.open_slice_pairs Tryz.underlying39 Tryz.underlying76 (by kernel_rfl) rfl rfl (by kernel_rfl) (by kernel_rfl) h with ⟨e, -⟩ | ⟨a, len, cap, mm, n2, V0, V1, D0, D1, P0, P1, e, -, hl, hm, hmm, -, hc⟩
  · simp at e
    subst e
    exact ⟨[], ⟨none, 0, rfl, Nat.le_refl _, Nat.zero_le _, .inl rfl⟩, by simp⟩
  · simp at e
    subst e
    have hlm : len ≤ mm := by rw [hmm]; split <;> omega
    have hall : ∀ i : Nat, ∃ q : Bool × Int, i < len → W.cell? (a.add (i * 2)) = some (.bool q.1) ∧ W.cell? (a.add (i * 2 + 1)) = some (.int .i64 q.2) ∧ (Lit.int .i64 q.2).wf = true := fun i => by
      by_cases hi : i < len
      · obtain ⟨g1, g2, g3, g4⟩ := hc i (by omega)
        obtain ⟨bq, eb, -⟩ := DataW.trod_bool Tryz.underlying4 g3
        obtain ⟨z, ez, -, hz⟩ := DataW.trod_int Tryz.underlying64 g4
        simp at eb ez
        exact ⟨(bq, z), fun _ => ⟨by rw [g1, eb], by rw [g2, ez], hz⟩⟩
      · exact ⟨(false, 0), fun h => absurd h hi⟩
    obtain ⟨F, hF⟩ := Classical.axiomOfChoice hall
    refine ⟨(List.range len).map F, ⟨some a, cap, by simp, by simpa using hl, hm, ?_⟩, fun q hq => ?_⟩
    · by_cases h0 : len = 0
      · left
        simp [h0]
      · right
        obtain ⟨b, off, spot⟩ := a
        have hspot : spot = none := by simpa [Addr.add] using World.cell?_spot (hF 0 (by omega)).1
        subst hspot
        refine ⟨b, off, rfl, fun k hk => ?_⟩
        have hk' : k < len := by simpa using hk
        obtain ⟨g1, g2, -⟩ := hF k hk'
        rw [add_two] at g1
        rw [add_two1] at g2
        refine ⟨?_, ?_⟩
        · rw [g1]
          simp
        · rw [g2]
          simp
    · obtain ⟨k, hk, rfl⟩ := List.mem_map.1 hq
      exact (hF k (List.mem_range.1 hk)).2.2
end Go.Proofs.YtpoibhhijidobabGreatDoor

/- Whether a pattern is small enough: contracts of the laws' own functions of layer 15, first part. -/
namespace Go.Proofs.YtpoibhhijidobabGreatDoor
open Go.ChangeShapes Go.WideShapes Go.ChangeAt Go.RowKit
set_option linter.unusedSimpArgs false
set_option linter.unusedVariables false

/-- Is a pattern small enough? -/
def fwB (p : Ptn) : Bool := decide (p.n ≤ 20) && decide (p.name.length ≤ 200) && p.ms.all fun m => decide (m.2.length ≤ 50)
theorem fw_false {p : Ptn} {k : Nat} (hk : k < p.n) (h : 50 < (p.tk k).length) : fwB p = false := by
  have h2 : (p.ms.all fun m => decide (m.2.length ≤ 50)) = false := by
    rw [List.all_eq_false]
    have hk2 : k < p.ms.length := hk
    refine ⟨p.ms[k]'hk2, List.getElem_mem hk2, ?_⟩
    have e : p.tk k = (p.ms[k]'hk2).2 := by
      unfold Ptn.tk
      simp [hk2]
    rw [← e]
    simp
    omega
  unfold fwB
  rw [h2, Bool.and_false]
theorem fw_true {p : Ptn} (h1 : p.n ≤ 20) (h2 : p.name.length ≤ 200) (h : ∀ k, k < p.n → (p.tk k).length ≤ 50) : fwB p = true := by
  have h4 : (p.ms.all fun m => decide (m.2.length ≤ 50)) = true := by
    rw [List.all_eq_true]
    intro m hm
    obtain ⟨k, hk, rfl⟩ := List.mem_iff_getElem.1 hm
    have := h k hk
    unfold Ptn.tk at this
    simpa [hk] using this
  unfold fwB
  rw [h4, decide_eq_true h1, decide_eq_true h2]
  rfl
theorem fwB_n {p : Ptn} (h : fwB p = true) : p.n ≤ 20 ∧ p.name.length ≤ 200 ∧ ∀ k, (p.tk k).length ≤ 50 := by
  unfold fwB at h
  simp only [Bool.and_eq_true, decide_eq_true_eq, List.all_eq_true] at h
  refine ⟨h.1.1, h.1.2, fun k => ?_⟩
  unfold Ptn.tk
  by_cases hk : k < p.ms.length
  · have := h.2 (p.ms[k]'hk) (List.getElem_mem hk)
    simpa [hk] using this
  · simp [hk]
theorem paInfo (p : Ptn) (vm : Value) : (Tryz.prog.info? 25).map (·.size) = some (paC p vm).length := by
  show _ = some 4
  kernel_rfl
theorem str_size (l : List UInt8) : ByteArray.size ⟨l.toArray⟩ = l.length := by
  show l.toArray.size = l.length
  simp

set_option maxRecDepth 100000 in
set_option maxHeartbeats 4000000 in
theorem few_any (p : Ptn) (vm : Value) (A : Array Value) (hA : A = (paC p vm).toArray) (hnm : p.name.length ≤ maxLen) (w : World) (h : MsR w vm p) :
    Calls Tryz.prog 8 #[.agg A] w fun e w' => e = .returned (.bool (fwB p)) ∧ Below w.heap.size w w' := by
  obtain ⟨a, cap, rfl, hl, hm, -⟩ := id h.form
  obtain ⟨n, hn⟩ : ∃ n : Nat, n = p.n := ⟨_, rfl⟩
  obtain ⟨L, hL⟩ : ∃ L : Nat, L = p.name.length := ⟨_, rfl⟩
  rw [← hn] at h hl hA
  rw [← hL] at hnm
  have HN : Hid (n = p.n) := hn
  have HL : Hid (L = p.name.length) := hL
  unfold maxLen at hm hnm
  have HM : Hid (MsR w (.slice a n cap) p) := h
  obtain ⟨SB, hSB⟩ : ∃ B : ByteArray, B = ⟨p.name.toArray⟩ := ⟨_, rfl⟩
  have hsz : SB.size = L := by rw [hSB, hL]; exact str_size _
  clear h hn hL
  go_enter Tryz.func8, Tryz.ntmps8
  go_wp2_with (refine wpList_box_blk rfl 25 _ rfl (paC p (.slice a n cap)) (by rw [← hA]; rfl) ?_)
  intro w1 r1 b1 s1
  have c3 : w1.cell? ⟨w.heap.size, 3, none⟩ = some (.slice a n cap) := r1.cell 3
  have c0 : w1.cell? ⟨w.heap.size, 0, none⟩ = some (.string SB) := by rw [hSB]; exact r1.cell 0
  have hM1 := HM.out.kept b1
  have hbw := b1
  clear b1 s1 hA hSB r1
  by_cases hn20 : 20 < n
  · have HF : Hid (fwB p = false) := by
      show _ = _
      unfold fwB
      rw [decide_eq_false (by rw [← HN.out]; omega)]
      rfl
    have d1 : decide ((20 : Int) < (n : Int)) = true := decide_eq_true (by omega)
    have d2 : (20 : Int) < (n : Int) := by omega
    go_wp2
    go_ret
    exact ⟨by rw [HF.out]; rfl, hbw⟩
  · have d1 : decide ((20 : Int) < (n : Int)) = false := decide_eq_false (by omega)
    have d2 : (n : Int) ≤ 20 := by omega
    by_cases hL2 : 200 < L
    · have HF : Hid (fwB p = false) := by
        show _ = _
        unfold fwB
        rw [decide_eq_false (by rw [← HL.out]; omega : ¬ p.name.length ≤ 200)]
        simp
      have d3 : decide ((200 : Int) < (L : Int)) = true := decide_eq_true (by omega)
      have d4 : (200 : Int) < (L : Int) := by omega
      go_wp2
      go_ret
      exact ⟨by rw [HF.out]; rfl, hbw⟩
    · have d3 : decide ((200 : Int) < (L : Int)) = false := decide_eq_false (by omega)
      have d4 : (L : Int) ≤ 200 := by omega
      have HM1 : Hid _ := hM1
      clear hM1
      go_wp2
      go_loop [3] (fun iv => ∃ i : Nat, i ≤ n ∧ iv = .int .i64 (i : Int) ∧ Hid (∀ k, k < i → (p.tk k).length ≤ 50)) (fun iv => n - (intOf iv).toNat)
      case atStart => exact ⟨0, by omega, rfl, (by show ∀ k, _; intro k hk; omega)⟩
      case round =>
        obtain ⟨i, hi, rfl, HI⟩ := hrel
        by_cases hlt : i < n
        · have hd : decide ((i : Int) < (n : Int)) = true := decide_eq_true (by omega)
          have hiI : (i : Int) < (n : Int) := by omega
          obtain ⟨a', cap', ev, -, -, h5⟩ := HM1.out.form
          simp only [Value.slice.injEq] at ev
          obtain ⟨rfl, -, rfl⟩ := ev
          rcases h5 with h5 | ⟨b, off, rfl, hc⟩
          · have := HN.out
            omega
          obtain ⟨vt, g1, g2, g3⟩ := hc i (by rw [← HN.out]; exact hlt)
          obtain ⟨at', ct, rfl, hv2, hv3, -, -⟩ := id g3
          unfold maxLen at hv3
          rw [show off + (2 * i + 1) = off + i * 2 + 1 by omega] at g2
          obtain ⟨M, hM⟩ : ∃ M : Nat, M = (p.tk i).length := ⟨_, rfl⟩
          rw [← hM] at g2 hv2
          have HMt : Hid (M = (p.tk i).length) := hM
          clear g1 g3 hc hM
          by_cases h50 : 50 < M
          · have d5 : decide ((50 : Int) < (M : Int)) = true := decide_eq_true (by omega)
            have d6 : (50 : Int) < (M : Int) := by omega
            have HF : Hid (fwB p = false) := fw_false (k := i) (by rw [← HN.out]; exact hlt) (by rw [← HMt.out]; exact h50)
            go_wp2
            go_ret
            exact ⟨by rw [HF.out]; rfl, hbw⟩
          · have d5 : decide ((50 : Int) < (M : Int)) = false := decide_eq_false (by omega)
            have d6 : (M : Int) ≤ 50 := by omega
            have HI2 : Hid (∀ k, k < i + 1 → (p.tk k).length ≤ 50) := fun k hk => by
              by_cases e : k = i
              · rw [e, ← HMt.out]; omega
              · exact HI.out k (by omega)
            go_wp2
            go_round
            case rel => exact ⟨i + 1, by omega, by go_num, HI2⟩
            case measure => simp [intOf] <;> omega
        · have hd : decide ((i : Int) < (n : Int)) = false := decide_eq_false (by omega)
          have hiI : (n : Int) ≤ (i : Int) := by omega
          have HF : Hid (fwB p = true) := fw_true (by rw [← HN.out]; omega) (by rw [← HL.out]; omega) (fun k hk => HI.out k (by rw [← HN.out] at hk; omega))
          go_wp2
          go_ret
          exact ⟨by rw [HF.out]; rfl, hbw⟩
end Go.Proofs.YtpoibhhijidobabGreatDoor

/- Slices that read as rows of elements of several cells each. No program's text is named. -/
namespace Go.Proofs.YtpoibhhijidobabGreatDoor
open Go.ChangeShapes Go.WideShapes Go.ChangeAt Go.RowKit
set_option linter.unusedSimpArgs false
set_option linter.unusedVariables false

/-- A slice of n elements of sz cells each, whose cells are these. -/
def RdE (w : World) (v : Value) (sz n : Nat) (xs : List Value) : Prop :=
  xs.length = n * sz ∧ ∃ a cap, v = .slice a n cap ∧ n ≤ cap ∧ cap ≤ maxLen ∧ (xs = [] ∨ ∃ b off, a = some ⟨b, off, none⟩ ∧ ∀ i, i < xs.length → w.cell? ⟨b, off + i, none⟩ = xs[i]?)
theorem RdE.nil (w : World) (sz : Nat) : RdE w (.slice none 0 0) sz 0 [] := ⟨by simp, none, 0, rfl, Nat.le_refl _, by simp [maxLen], .inl rfl⟩
theorem RdE.kept {w w' : World} {v : Value} {sz n : Nat} {xs : List Value} (h : RdE w v sz n xs) (hb : Below w.heap.size w w') : RdE w' v sz n xs := by
  obtain ⟨hl, a, c, e1, h2, h3, h5⟩ := h
  refine ⟨hl, a, c, e1, h2, h3, h5.imp id ?_⟩
  rintro ⟨b, off, e2, hc⟩
  refine ⟨b, off, e2, fun i hi => ?_⟩
  have h6 := hc i hi
  have h7 : xs[i]? = some xs[i] := by simp [hi]
  rw [h7] at h6
  rw [hb.cell (World.block_lt_of_cell? _ _ h6), h6, h7]
theorem RdE.len {w : World} {v : Value} {sz n : Nat} {xs : List Value} (h : RdE w v sz n xs) : ∃ a c, v = .slice a n c ∧ n ≤ c ∧ c ≤ maxLen := by
  obtain ⟨hl, a, c, e1, h2, h3, h5⟩ := h
  exact ⟨a, c, e1, h2, h3⟩
theorem RdE.cellAt {w : World} {a : Option Addr} {m c sz n : Nat} {xs : List Value} (h : RdE w (.slice a m c) sz n xs) {i : Nat} (hi : i < xs.length) : ∃ b off, a = some ⟨b, off, none⟩ ∧ w.cell? ⟨b, off + i, none⟩ = some xs[i] := by
  obtain ⟨hl, a', c', e1, h2, h3, h5⟩ := h
  simp only [Value.slice.injEq] at e1
  obtain ⟨rfl, -, -⟩ := e1
  rcases h5 with h | ⟨b, off, e2, hc⟩
  · rw [h] at hi
    cases hi
  · refine ⟨b, off, e2, ?_⟩
    rw [hc i hi]
    simp [hi]
theorem RdE.of_own {w : World} {base sz : Nat} {e : TypeId} {v : Value} {n : Nat} {xs : List Value} (h : w.ownsRow base e sz v n xs) : RdE w v sz n xs := by
  refine ⟨h.1, ?_⟩
  rcases h.2 with ⟨rfl, h0⟩ | ⟨g, cap, cur, hv, hb, hg, hle, hm, hss, htk⟩
  · subst h0
    have : xs = [] := List.eq_nil_of_length_eq_zero (by have := h.1; simpa using this)
    subst this
    exact ⟨none, 0, rfl, Nat.le_refl _, by simp [maxLen], .inl rfl⟩
  · refine ⟨some ⟨g, 0, none⟩, cap, hv, hle, hm, ?_⟩
    by_cases h0 : xs = []
    · exact .inl h0
    · right
      refine ⟨g, 0, rfl, fun i hi => ?_⟩
      have h7 : xs[i]? = some xs[i] := by simp [hi]
      have := h.cells (by rw [hv]; rfl) i xs[i] h7
      have hp : (⟨g, 0, none⟩ : Addr).add i = ⟨g, 0 + i, none⟩ := by unfold Addr.add; split <;> simp_all
      rw [h7, ← hp]
      exact this
/-- A row that was just written out. -/
theorem RdE.lit {w : World} {e : TypeId} {sz : Nat} (xs : List Value) {cs : Array Value} {n b : Nat} (h : cs = xs.toArray) (hn : xs.length = n * sz) (hb : b = w.heap.size) (hm : n ≤ maxLen) : RdE (w.alloc (.cells cs e)) (.slice (some ⟨b, 0, none⟩) n n) sz n xs := by
  subst h hb
  refine ⟨hn, _, _, rfl, Nat.le_refl _, hm, ?_⟩
  right
  refine ⟨_, 0, rfl, fun i hi => ?_⟩
  have hh : (w.alloc (.cells xs.toArray e)).heap[w.heap.size]? = some (.cells xs.toArray e) := by
    show (w.heap.push _)[w.heap.size]? = _
    simp
  unfold World.cell?
  rw [hh]
  simp [hi]
end Go.Proofs.YtpoibhhijidobabGreatDoor

/- A pattern's secrets as they are read: what they hang on, and from which keys they can be worked out. No program's text is named. -/
namespace Go.Proofs.YtpoibhhijidobabGreatDoor
open Go.ChangeShapes Go.WideShapes Go.ChangeAt Go.RowKit
set_option linter.unusedSimpArgs false
set_option linter.unusedVariables false

/-- Secrets with the slices of their keys. -/
abbrev ScL := List ((Int × List (Bool × Int)) × Value)
theorem seX_len (l : ScL) : (seX l).length = l.length * 2 := by
  induction l with
  | nil => rfl
  | cons e l ih => simp [seX] at ih ⊢; omega
theorem kyC_len (l : List (Bool × Int)) : (kyC l).length = l.length * 2 := by
  induction l with
  | nil => rfl
  | cons e l ih => simp [kyC] at ih ⊢; omega
theorem seX_at (l : ScL) : ∀ i (h : i < l.length), (seX l)[2 * i]? = some (.int .i64 l[i].1.1) ∧ (seX l)[2 * i + 1]? = some l[i].2 := by
  induction l with
  | nil => intro i h; cases h
  | cons e l ih =>
    intro i h
    cases i with
    | zero => exact ⟨rfl, rfl⟩
    | succ i =>
      have := ih i (by simpa using h)
      have e1 : 2 * (i + 1) = 2 * i + 2 := by omega
      rw [e1]
      exact this
theorem kyC_at (l : List (Bool × Int)) : ∀ i (h : i < l.length), (kyC l)[2 * i]? = some (.bool l[i].1) ∧ (kyC l)[2 * i + 1]? = some (.int .i64 l[i].2) := by
  induction l with
  | nil => intro i h; cases h
  | cons e l ih =>
    intro i h
    cases i with
    | zero => exact ⟨rfl, rfl⟩
    | succ i =>
      have := ih i (by simpa using h)
      have e1 : 2 * (i + 1) = 2 * i + 2 := by omega
      rw [e1]
      exact this
/-- A slice of secrets that reads so, with the slices of their keys. -/
structure ScR (w : World) (v : Value) (l : ScL) : Prop where
  row : RdE w v 2 l.length (seX l)
  keys : ∀ e ∈ l, RdE w e.2 2 e.1.2.length (kyC e.1.2)
theorem ScR.of_own {w0 w : World} {ts tk : TypeId} {v : Value} {l : ScL} (h : OwnG w0 (⟨ts, 2, v, l.length, seX l⟩ :: seK tk l) w) : ScR w v l :=
  ⟨RdE.of_own (h.rows _ (List.mem_cons_self ..)), fun e he => RdE.of_own (h.rows ⟨tk, 2, e.2, e.1.2.length, kyC e.1.2⟩ (List.mem_cons_of_mem _ (List.mem_map.2 ⟨e, List.mem_reverse.2 he, rfl⟩)))⟩
theorem ScR.kept {w w' : World} {v : Value} {l : ScL} (h : ScR w v l) (hb : Below w.heap.size w w') : ScR w' v l := ⟨h.row.kept hb, fun e he => (h.keys e he).kept hb⟩
theorem ScR.at {w : World} {a : Option Addr} {n c : Nat} {l : ScL} (h : ScR w (.slice a n c) l) (i : Nat) (hi : i < l.length) : ∃ b off, a = some ⟨b, off, none⟩ ∧ w.cell? ⟨b, off + 2 * i, none⟩ = some (.int .i64 l[i].1.1) ∧ w.cell? ⟨b, off + (2 * i + 1), none⟩ = some l[i].2 := by
  have hl := seX_len l
  have hs := seX_at l i hi
  obtain ⟨b, off, e, h1⟩ := h.row.cellAt (i := 2 * i) (by omega)
  obtain ⟨b', off', e', h2⟩ := h.row.cellAt (i := 2 * i + 1) (by omega)
  rw [e] at e'
  simp only [Option.some.injEq, Addr.mk.injEq, and_true] at e'
  obtain ⟨rfl, rfl⟩ := e'
  refine ⟨b, off, e, ?_, ?_⟩
  · rw [h1, ← hs.1]
    simp
  · rw [h2, ← hs.2]
    simp
theorem RdE.keyAt {w : World} {a : Option Addr} {n c : Nat} {l : List (Bool × Int)} (h : RdE w (.slice a n c) 2 l.length (kyC l)) (i : Nat) (hi : i < l.length) : ∃ b off, a = some ⟨b, off, none⟩ ∧ w.cell? ⟨b, off + 2 * i, none⟩ = some (.bool l[i].1) ∧ w.cell? ⟨b, off + (2 * i + 1), none⟩ = some (.int .i64 l[i].2) := by
  have hl := kyC_len l
  have hs := kyC_at l i hi
  obtain ⟨b, off, e, h1⟩ := h.cellAt (i := 2 * i) (by omega)
  obtain ⟨b', off', e', h2⟩ := h.cellAt (i := 2 * i + 1) (by omega)
  rw [e] at e'
  simp only [Option.some.injEq, Addr.mk.injEq, and_true] at e'
  obtain ⟨rfl, rfl⟩ := e'
  refine ⟨b, off, e, ?_, ?_⟩
  · rw [h1, ← hs.1]
    simp
  · rw [h2, ← hs.2]
    simp
/-- Does one of the first i keep to something? -/
def anT {α : Type} (f : α → Bool) (l : List α) : Nat → Bool
  | 0 => false
  | i + 1 => anT f l i || (match l[i]? with | some x => f x | none => false)
theorem anT_next {α : Type} (f : α → Bool) (l : List α) (i : Nat) (h : i < l.length) : anT f l (i + 1) = (anT f l i || f l[i]) := by
  show (anT f l i || (match l[i]? with | some x => f x | none => false)) = _
  rw [List.getElem?_eq_getElem h]
theorem anT_take {α : Type} (f : α → Bool) (l : List α) : ∀ i, anT f l i = (l.take i).any f
  | 0 => rfl
  | i + 1 => by
    show (anT f l i || (match l[i]? with | some x => f x | none => false)) = _
    rw [anT_take f l i, List.take_add_one, List.any_append]
    cases l[i]? <;> simp
theorem anT_all {α : Type} (f : α → Bool) (l : List α) : anT f l l.length = l.any f := by rw [anT_take, List.take_length]
/-- Are both kinds among a pattern's secrets? -/
def hyB (p : Ptn) : Bool := (secL p).any (fun e => decide (e.1 < 7)) && (secL p).any (fun e => decide (8 < e.1))
theorem any_keys (f : Int × List (Bool × Int) → Bool) (l : ScL) : l.any (fun e => f e.1) = (l.map (·.1)).any f := by
  rw [List.any_map]
  rfl
/-- Can a secret be worked out: the curve or the kem are broken, or a key is known? -/
def drE (curve kem : Bool) (known : List (Bool × Int)) (e : Int × List (Bool × Int)) : Bool := (curve && decide (e.1 < 7)) || (kem && decide (8 < e.1)) || e.2.any fun k => known.any fun q => q == k
/-- Can all of a pattern's secrets? -/
def drB (p : Ptn) (curve kem : Bool) (known : List (Bool × Int)) : Bool := wrB p && (secL p).all (drE curve kem known)
end Go.Proofs.YtpoibhhijidobabGreatDoor

/- What the document's own words of tokens, and a line's tokens, are: contracts of the reference of layer 15, fourth part. -/
namespace Go.Proofs.YtpoibhhijidobabGreatDoor
open Go.ChangeShapes Go.WideShapes Go.ChangeAt Go.RowKit
set_option linter.unusedSimpArgs false
set_option linter.unusedVariables false

/-- The number of a word, of those below m. -/
def tkN (p : List UInt8) : Nat → Nat
  | 0 => 0
  | k + 1 => if 1 ≤ k ∧ wdL.getD k [] = p then k else tkN p k
def tokN (p : List UInt8) : Nat := tkN p 11
theorem tkN_lt (p : List UInt8) : ∀ m, tkN p m ≤ m - 1
  | 0 => Nat.le_refl _
  | k + 1 => by
    have := tkN_lt p k
    unfold tkN
    split <;> omega
set_option maxHeartbeats 1000000 in
theorem words15_any (w : World) :
    Calls Tryz.prog 60 #[] w fun e w' => ∃ v, e = .returned v ∧ RdC w' v (stC wdL) ∧ Below w.heap.size w w' := by
  have hr : RdC (w.alloc (.cells (stC wdL).toArray 9)) (.slice (some ⟨w.heap.size, 0, none⟩) 11 11) (stC wdL) := RdC.lit (stC wdL) rfl rfl rfl (by show 11 ≤ maxLen; unfold maxLen; omega)
  have hb := growB (w := w) (.cells (stC wdL).toArray 9)
  go_enter Tryz.func60, Tryz.ntmps60
  go_wp2
  go_ret
  exact ⟨_, rfl, hr, hb⟩
/-! ### A line -/
def msgL (s : List UInt8) : List Nat := (splL 44 (s.drop 2)).map fun p => tokN (tmT p)
def msgH (s : List UInt8) : Bool := decide (2 ≤ s.length) && (decide (s.take 2 = [45, 62]) || decide (s.take 2 = [60, 45]))
def msgB (s : List UInt8) : Bool := msgH s && (msgL s).all fun n => n != 0
def nIs (l : List Nat) : List Int := l.map fun n => ((n : Nat) : Int)
theorem infoI15 : (Tryz.prog.info? 3).map (fun i => (i.zero, i.size, i.bytes)) = some (some (.int .i64 0), 1, 8) := by kernel_rfl
theorem litI15 {k : IntKind} {w : World} {e : TypeId} (x : Int) : RdI k (w.alloc (.cells #[.int k x] e)) (.slice (some ⟨w.heap.size, 0, none⟩) 1 1) [x] :=
  (NewI.lit (k := k) (e := e) (w := w) [x] rfl rfl rfl (by simp [maxLen])).rd
theorem stC_length (ls : List (List UInt8)) : (stC ls).length = ls.length := by simp [stC]
theorem NewI.from15 {k : IntKind} {e : TypeId} {w wr w2 : World} {v : Value} {l : List Int} (h : NewI k e wr v l w2) (hb : Below w.heap.size w wr) : NewI k e w v l w2 := ⟨own_monoG h.1 hb.size, hb.trans (h.2.mono hb.size)⟩
theorem bytes_beq (a b : List UInt8) : ((⟨a.toArray⟩ : ByteArray) == ⟨b.toArray⟩) = decide (a = b) := by
  show (a.toArray == b.toArray) = decide (a = b)
  by_cases h : a = b
  · subst h
    simp
  · rw [decide_eq_false h]
    simpa using h

set_option maxRecDepth 100000 in
set_option maxHeartbeats 8000000 in
theorem message15_any (s : List UInt8) (hs : s.length ≤ 1000000) (w : World) :
    Calls Tryz.prog 40 #[.string ⟨s.toArray⟩] w fun e w' => Below w.heap.size w w' ∧ ((msgB s = true ∧ ∃ v, e = .returned (.tuple #[.bool (decide (s.getD 0 0 = 45)), v, .bool true]) ∧ NewI .i64 3 w v (nIs (msgL s)) w') ∨ (msgB s = false ∧ e = .returned (.tuple #[.bool false, .slice none 0 0, .bool false]))) := by
  obtain ⟨L, hL⟩ : ∃ L : Nat, L = s.length := ⟨_, rfl⟩
  have HL : Hid (L = s.length) := hL
  have hsz : ByteArray.size ⟨s.toArray⟩ = L := by rw [hL]; rfl
  have hLb : L ≤ 1000000 := by omega
  generalize hS : (⟨s.toArray⟩ : ByteArray) = S at hsz
  by_cases hH : msgH s = true
  · have h2 : 2 ≤ L := by
      unfold msgH at hH
      simp only [Bool.and_eq_true, decide_eq_true_eq] at hH
      omega
    have d1 : decide ((L : Int) < 2) = false := decide_eq_false (by omega)
    have d2 : (2 : Int) ≤ (L : Int) := by omega
    have x1 : S.extract 0 2 = ⟨(s.take 2).toArray⟩ := by rw [← hS, bytes_part s 0 2 (by omega) (by omega)]; rfl
    have x2 : S.extract 2 L = ⟨(s.drop 2).toArray⟩ := by rw [← hS, bytes_part s 2 L (by omega) (by omega), hL, List.take_length]
    have hcase : ((s.take 2 == [45, 62]) = true) ∨ ((s.take 2 == [45, 62]) = false ∧ (s.take 2 == [60, 45]) = true) := by
      unfold msgH at hH
      simp only [Bool.and_eq_true, Bool.or_eq_true, decide_eq_true_eq] at hH
      by_cases h : s.take 2 = [45, 62]
      · left; rw [h]; rfl
      · right
        rcases hH.2 with h' | h'
        · exact absurd h' h
        · rw [h']; exact ⟨rfl, rfl⟩
    rw [← str_toList (s.take 2)] at hcase
    have hat : ∀ h : 0 < S.size, (S[0]'h).toNat = (s.getD 0 0).toNat := by
      subst hS
      intro h
      have h3 : 0 < s.length := by omega
      show (s.toArray[0]).toNat = _
      simp [h3]
    obtain ⟨bb, hbb⟩ : ∃ b : Bool, b = decide (s.getD 0 0 = 45) := ⟨_, rfl⟩
    have hbq : ((((s.getD 0 0).toNat : Nat) : Int) == 45) = bb := by
      rw [hbb]
      rcases byte_is (s.getD 0 0) 45 with ⟨e, e1, e2⟩ | ⟨e, e1, e2⟩
      · rw [decide_eq_true e]; exact e1
      · rw [decide_eq_false e]; exact e1
    rw [← hbb]
    generalize (s.getD 0 0).toNat = q0 at hat hbq
    generalize hT2 : (⟨(s.take 2).toArray⟩ : ByteArray) = T2 at x1 hcase
    generalize hD2 : (⟨(s.drop 2).toArray⟩ : ByteArray) = D2 at x2
    have HD2 : Hid (D2 = (⟨(s.drop 2).toArray⟩ : ByteArray)) := hD2.symm
    have HH : Hid (msgH s = true) := hH
    have hDl : (s.drop 2).length ≤ 1000000 := by rw [List.length_drop]; omega
    clear hL hs hS hT2 hD2 hH hbb
    rcases hcase with c1 | ⟨c1, c2⟩
    all_goals
      go_enter Tryz.func40, Tryz.ntmps40
      go_wp2_with fail
      rw [HD2.out]
      refine (cut15_any (s.drop 2) hDl 44 44 rfl _).mono ?_
      rintro e w1 ⟨vl, rfl, hO⟩
      have hbw := hO.below
      have hrl := hO.rdC rfl
      have hrl : RdC w1 vl (stC (splL 44 (s.drop 2))) := hrl
      obtain ⟨ps, hps⟩ : ∃ ps : List (List UInt8), ps = splL 44 (s.drop 2) := ⟨_, rfl⟩
      rw [← hps] at hrl
      have HPl : Hid (∀ p ∈ ps, p.length ≤ 1000000) := by
        show ∀ p, _
        intro p hp
        rw [hps] at hp
        exact Nat.le_trans (splL_len 44 _ p hp) hDl
      obtain ⟨NS, hNS⟩ : ∃ NS : List Nat, NS = ps.map fun p => tokN (tmT p) := ⟨_, rfl⟩
      have HML : Hid (msgL s = NS) := by show _ = _; rw [hNS, hps]; rfl
      have HNS : Hid (NS = ps.map fun p => tokN (tmT p)) := hNS
      have HMl : Hid (ps.length ≤ 1000001) := by
        show _ ≤ _
        rw [hps]
        have := splL_count 44 (s.drop 2)
        omega
      clear hO hps hNS
      obtain ⟨al, cl, rfl, hcl1, hcl2, -⟩ := id hrl
      rw [stC_length] at hcl1 ⊢
      obtain ⟨M, hM⟩ : ∃ M : Nat, M = ps.length := ⟨_, rfl⟩
      have HRl : Hid (RdC w1 (.slice al M cl) (stC ps)) := by
        rw [stC_length, ← hM] at hrl
        exact hrl
      rw [← hM] at hcl1 ⊢
      have hMb : M ≤ 1000001 := by have := HMl.out; omega
      have HM : Hid (M = ps.length) := hM
      have hN0 : NewI .i64 3 w1 (.slice none 0 0) (nIs (NS.take 0)) w1 := NewI.start w1
      clear hrl hM
      unfold maxLen at hcl2
      go_wp2
      go_loopw [5, 7] (fun ov iv wx => ∃ i : Nat, i ≤ M ∧ iv = .int .i64 (i : Int) ∧ Hid ((NS.take i).all (fun n => n != 0) = true) ∧ NewI .i64 3 w1 ov (nIs (NS.take i)) wx) (fun _ iv _ => M - (intOf iv).toNat)
      case atStart => exact ⟨0, by omega, rfl, (by show _ = _; rfl), hN0⟩
      case round =>
        obtain ⟨i, hi, rfl, HA, hN⟩ := hrel
        clear hN0
        by_cases hlt : i < M
        · have hd : decide ((i : Int) < (M : Int)) = true := decide_eq_true (by omega)
          have hiI : (i : Int) < (M : Int) := by omega
          have hips : i < ps.length := by have := HM.out; omega
          obtain ⟨p, hp⟩ : ∃ p : List UInt8, p = ps[i] := ⟨_, rfl⟩
          obtain ⟨gl, ol, c', ev, -, -, hcell⟩ := (HRl.out.kept hN.2).cellAt (i := i) (by rw [stC_length]; exact hips)
          simp only [Value.slice.injEq] at ev
          obtain ⟨rfl, -, rfl⟩ := ev
          have hsc : (stC ps)[i]'(by rw [stC_length]; exact hips) = Value.string ⟨p.toArray⟩ := by rw [hp]; simp [stC]
          rw [hsc] at hcell
          have HPp : Hid (p.length ≤ 1000000) := by show _ ≤ _; rw [hp]; exact HPl.out _ (List.getElem_mem hips)
          have HTk : Hid (NS.take (i + 1) = NS.take i ++ [tokN (tmT p)]) := by
            show _ = _
            have h3 : i < NS.length := by rw [HNS.out, List.length_map]; exact hips
            rw [List.take_succ_eq_append_getElem h3, hp]
            simp [HNS.out]
          obtain ⟨PB, hPB⟩ : ∃ B : ByteArray, B = ⟨p.toArray⟩ := ⟨_, rfl⟩
          rw [← hPB] at hcell
          have HPB : Hid _ := hPB
          clear hp hsc hPB hips
          go_wp2_with fail
          rw [HPB.out]
          refine (trim15_any p HPp.out _).mono ?_
          rintro e w2 ⟨rfl, rfl⟩
          obtain ⟨TB, hTB⟩ : ∃ B : ByteArray, B = ⟨(tmT p).toArray⟩ := ⟨_, rfl⟩
          rw [← hTB]
          have HTB : Hid (TB.toList = tmT p) := by show _ = _; rw [hTB]; exact str_toList _
          have hN1 := hN
          clear hTB hN hcell
          rename World => wv
          go_wp2
          go_loopw [9, 10] (fun nv kv wx => ∃ k n : Nat, 1 ≤ k ∧ k ≤ 11 ∧ kv = .int .i64 (k : Int) ∧ nv = .int .i64 (n : Int) ∧ Hid (n = tkN (tmT p) k) ∧ NewI .i64 3 w1 u5 (nIs (NS.take i)) wx) (fun _ kv _ => 11 - (intOf kv).toNat)
          case atStart => exact ⟨1, 0, by omega, by omega, rfl, rfl, (by show _ = _; rfl), hN1⟩
          case round =>
            obtain ⟨k, n, hk1, hk2, rfl, rfl, HT, hN⟩ := hrel
            clear hN1
            by_cases hltk : k < 11
            · have hdk : decide ((k : Int) < 11) = true := decide_eq_true (by omega)
              have hkI : (k : Int) < 11 := by omega
              go_wp2_with fail
              refine (words15_any _).mono ?_
              rintro e w3 ⟨vw, rfl, hrw, b3⟩
              have hN3 := hN.kept b3
              have hkw : k < (stC wdL).length := hltk
              obtain ⟨gw, ow, cw, rfl, hw1, hw2, hcw⟩ := hrw.cellAt hkw
              have hsw : (stC wdL)[k] = Value.string ⟨(wdL.getD k []).toArray⟩ := by
                have : k < wdL.length := hltk
                simp [stC, this]
              rw [hsw] at hcw
              obtain ⟨KB, hKB⟩ : ∃ B : ByteArray, B = ⟨(wdL.getD k []).toArray⟩ := ⟨_, rfl⟩
              rw [← hKB] at hcw
              have hKl : KB.toList = wdL.getD k [] := by rw [hKB]; exact str_toList _
              rw [show (stC wdL).length = 11 from rfl] at hw1 ⊢
              unfold maxLen at hw2
              have hstep : ((KB.toList == TB.toList) = true ∧ tkN (tmT p) (k + 1) = k) ∨ ((KB.toList == TB.toList) = false ∧ tkN (tmT p) (k + 1) = tkN (tmT p) k) := by
                rw [hKl, HTB.out]
                by_cases h : wdL.getD k [] = tmT p
                · left
                  refine ⟨by rw [h]; simp, ?_⟩
                  show (if 1 ≤ k ∧ wdL.getD k [] = tmT p then k else _) = _
                  rw [if_pos ⟨hk1, h⟩]
                · right
                  refine ⟨by simpa using h, ?_⟩
                  show (if 1 ≤ k ∧ wdL.getD k [] = tmT p then k else _) = _
                  rw [if_neg (fun e => h e.2)]
              clear hKB hKl hsw hN hrw b3 hkw
              rcases hstep with ⟨s1, s2⟩ | ⟨s1, s2⟩
              · have HT2 : Hid (k = tkN (tmT p) (k + 1)) := s2.symm
                clear s2
                go_wp2
                go_roundw
                case rel => exact ⟨k + 1, k, by omega, by omega, by go_num, rfl, HT2, hN3⟩
                case measure => simp [intOf] <;> omega
              · have HT2 : Hid (n = tkN (tmT p) (k + 1)) := by show _ = _; rw [s2]; exact HT.out
                clear s2
                go_wp2
                go_roundw
                case rel => exact ⟨k + 1, n, by omega, by omega, by go_num, rfl, HT2, hN3⟩
                case measure => simp [intOf] <;> omega
            · have hdk : decide ((k : Int) < 11) = false := decide_eq_false (by omega)
              have hkI : (11 : Int) ≤ (k : Int) := by omega
              have hke : n = tokN (tmT p) := by rw [HT.out, show k = 11 by omega]; rfl
              have HMp : Hid (NS.take (i + 1) = NS.take i ++ [n]) := by
                show _ = _
                rw [HTk.out, hke]
              have hnb : n ≤ 10 := by rw [HT.out]; have := tkN_lt (tmT p) k; omega
              by_cases hz : n = 0
              · have HF : Hid (msgB s = false) := by
                  show _ = _
                  unfold msgB
                  rw [HML.out]
                  have : (NS.all fun n => n != 0) = false := by
                    rw [List.all_eq_false]
                    refine ⟨n, ?_, by rw [hz]; simp⟩
                    have h1 : n ∈ NS.take (i + 1) := by rw [HMp.out]; simp
                    exact List.mem_of_mem_take h1
                  rw [this, Bool.and_false]
                have hb2 := stepB hbw hN.2
                subst hz
                clear hke
                go_wp2
                go_ret3
                exact ⟨hb2, .inr ⟨HF.out, rfl⟩⟩
              · have hz2 : ((n : Int) == 0) = false := by
                  have : ¬ (n : Int) = 0 := by omega
                  simpa using this
                have hz3 : ¬ (n : Int) = 0 := by omega
                have HA2 : Hid ((NS.take (i + 1)).all (fun n => n != 0) = true) := by
                  show _ = _
                  rw [HMp.out, List.all_append, HA.out]
                  simpa using hz
                have HNx : Hid (nIs (NS.take i) ++ [(n : Int)] = nIs (NS.take (i + 1))) := by
                  show _ = _
                  rw [HMp.out]
                  simp [nIs]
                have HLn : Hid ((nIs (NS.take i)).length ≤ 1000001) := by
                  show _ ≤ _
                  rw [nIs, List.length_map, List.length_take]
                  omega
                have hLt : RdI .i64 (wr.alloc (.cells #[.int .i64 (n : Int)] 3)) (.slice (some ⟨wr.heap.size, 0, none⟩) 1 1) [(n : Int)] := litI15 _
                clear hke hz HMp
                go_wp2_with (at_builtin; go_must (refine wpList_append_newI (k := .i64) (w := w1) rfl _ _ 63 rfl 3 Tryz.underlying63 8 infoI15 _ _ rfl (hN.alloc _) _ _ rfl hLt (by have := HLn.out; simp only [List.length_singleton]; omega) (by have := HLn.out; simp only [List.length_singleton]; omega) ?_))
                intro v6 w6 hN6 _
                rw [HNx.out] at hN6
                clear hN hLt
                go_wp2
                go_roundw
                case rel => exact ⟨i + 1, by omega, by go_num, HA2, hN6⟩
                case measure => simp [intOf] <;> omega
        · have hd : decide ((i : Int) < (M : Int)) = false := decide_eq_false (by omega)
          have hiI : (M : Int) ≤ (i : Int) := by omega
          have hie : NS.take i = NS := List.take_of_length_le (by rw [HNS.out, List.length_map]; have := HM.out; omega)
          rw [hie, ← HML.out] at hN
          have HB : Hid (msgB s = true) := by
            show _ = _
            have h1 := HA.out
            rw [hie, ← HML.out] at h1
            unfold msgB
            rw [HH.out, h1]
            rfl
          have hNf := hN.from15 hbw
          have hb2 := stepB hbw hN.2
          clear hie hN
          go_wp2
          go_ret3
          exact ⟨hb2, .inl ⟨HB.out, _, rfl, hNf⟩⟩
  · have HF : Hid (msgB s = false) := by
      show _ = _
      unfold msgB
      rw [Bool.not_eq_true (msgH s) |>.mp hH]
      rfl
    have hcase : (decide ((L : Int) < 2) = true ∧ (L : Int) < 2) ∨ (decide ((L : Int) < 2) = false ∧ (2 : Int) ≤ (L : Int) ∧ S.extract 0 2 = ⟨(s.take 2).toArray⟩ ∧ (s.take 2 == [45, 62]) = false ∧ (s.take 2 == [60, 45]) = false) := by
      by_cases h : L < 2
      · exact .inl ⟨decide_eq_true (by omega), by omega⟩
      · right
        unfold msgH at hH
        simp only [Bool.and_eq_true, Bool.or_eq_true, decide_eq_true_eq, not_and, not_or] at hH
        have h3 := hH (by omega)
        refine ⟨decide_eq_false (by omega), by omega, by rw [← hS, bytes_part s 0 2 (by omega) (by omega)]; rfl, by simpa using h3.1, by simpa using h3.2⟩
    rw [← str_toList (s.take 2)] at hcase
    generalize (⟨(s.take 2).toArray⟩ : ByteArray) = T2 at hcase
    clear hH hS hL hs
    rcases hcase with ⟨c1, c2⟩ | ⟨c1, c2, c3, c4, c5⟩
    all_goals
      go_enter Tryz.func40, Tryz.ntmps40
      go_wp2
      go_ret3
      exact ⟨Below.refl _ _, .inr ⟨HF.out, rfl⟩⟩
end Go.Proofs.YtpoibhhijidobabGreatDoor

/- Which patterns the document says may be written: contracts of the reference of layer 15, fifth part. -/
namespace Go.Proofs.YtpoibhhijidobabGreatDoor
open Go.ChangeShapes Go.WideShapes Go.ChangeAt Go.RowKit
set_option linter.unusedSimpArgs false
set_option linter.unusedVariables false

set_option maxRecDepth 100000 in
set_option maxHeartbeats 8000000 in
theorem written15_any (p : Ptn) (hp : p.name.length ≤ 1000000) (A : Array Value) (vi vl : Value) (hA : A = (ptC p vi vl).toArray) (w : World) (hR : PtR w p vi vl) :
    Calls Tryz.prog 41 #[.agg A] w fun e w' => e = .returned (.bool (wrB p)) ∧ Below w.heap.size w w' := by
  obtain ⟨al, cl, rfl, hl1, hl2⟩ := hR.len
  unfold maxLen at hl2
  obtain ⟨n, hn⟩ : ∃ n : Nat, n = p.n := ⟨_, rfl⟩
  rw [← hn] at hR hl1 hA
  have HN : Hid (n = p.n) := hn
  have HR : Hid (PtR w p vi (.slice al n cl)) := hR
  have HP : Hid (p.name.length ≤ 1000000) := hp
  clear hR hp hn
  go_enter Tryz.func41, Tryz.ntmps41
  go_wp2_with (refine wpList_box_blk rfl 36 _ rfl (ptC p vi (.slice al n cl)) (by rw [← hA]; rfl) ?_)
  intro w1 hB b1 s1
  have c0 : w1.cell? ⟨w.heap.size, 0, none⟩ = some (.string ⟨p.name.toArray⟩) := by rw [hB.cell]; rfl
  have c4 : w1.cell? ⟨w.heap.size, 4, none⟩ = some (.slice al n cl) := by rw [hB.cell]; rfl
  have hR1 := HR.out.kept b1
  obtain ⟨NB, hNB⟩ : ∃ B : ByteArray, B = ⟨p.name.toArray⟩ := ⟨_, rfl⟩
  rw [← hNB] at c0
  have HNB : Hid _ := hNB
  have hbw := b1
  clear hB b1 s1 hA hNB
  go_wp2_with fail
  rw [HNB.out]
  refine (name15_any p.name HP.out _).mono ?_
  rintro e w1 ⟨rfl, rfl⟩
  obtain ⟨nb, hnb⟩ : ∃ b : Bool, b = nmB p.name := ⟨_, rfl⟩
  rw [← hnb]
  have hcase : (nb = false ∧ wrB p = false) ∨ (nb = true ∧ decide ((n : Int) < 1) = true ∧ (n : Int) < 1 ∧ wrB p = false) ∨ (nb = true ∧ decide ((n : Int) < 1) = false ∧ (1 : Int) ≤ (n : Int) ∧ decide ((8 : Int) < (n : Int)) = true ∧ (8 : Int) < (n : Int) ∧ wrB p = false) ∨ (nb = true ∧ decide ((n : Int) < 1) = false ∧ (1 : Int) ≤ (n : Int) ∧ decide ((8 : Int) < (n : Int)) = false ∧ (n : Int) ≤ 8) := by
    have hw : wrB p = (nb && decide (1 ≤ n) && decide (n ≤ 8) && p.ms.all fun m => wrM m.2) := by
      unfold wrB
      rw [hnb, ← HN.out]
    cases nb with
    | false => exact .inl ⟨rfl, by rw [hw]; simp⟩
    | true =>
      right
      by_cases h1 : n < 1
      · exact .inl ⟨rfl, decide_eq_true (by omega), by omega, by rw [hw, decide_eq_false (by omega)]; simp⟩
      · by_cases h2 : 8 < n
        · exact .inr (.inl ⟨rfl, decide_eq_false (by omega), by omega, decide_eq_true (by omega), by omega, by rw [hw, decide_eq_false (by omega : ¬ n ≤ 8)]; simp⟩)
        · exact .inr (.inr ⟨rfl, decide_eq_false (by omega), by omega, decide_eq_false (by omega), by omega⟩)
  have HNm : Hid (nb = nmB p.name) := hnb
  clear hnb c0
  rcases hcase with ⟨rfl, hf⟩ | ⟨rfl, h1, h2, hf⟩ | ⟨rfl, h1, h2, h3, h4, hf⟩ | ⟨rfl, h1, h2, h3, h4⟩
  · have HF : Hid (wrB p = false) := hf
    clear hf
    go_wp2
    go_ret
    exact ⟨by rw [HF.out]; rfl, hbw⟩
  · have HF : Hid (wrB p = false) := hf
    clear hf
    go_wp2
    go_ret
    exact ⟨by rw [HF.out]; rfl, hbw⟩
  · have HF : Hid (wrB p = false) := hf
    clear hf
    go_wp2
    go_ret
    exact ⟨by rw [HF.out]; rfl, hbw⟩
  · go_wp2
    go_loop [4] (fun iv => ∃ i : Nat, i ≤ n ∧ iv = .int .i64 (i : Int) ∧ Hid (∀ k, k < i → wrM (p.tk k) = true)) (fun iv => n - (intOf iv).toNat)
    case atStart => exact ⟨0, by omega, rfl, (by show ∀ k, _; intro k hk; omega)⟩
    case round =>
      obtain ⟨i, hi, rfl, HI⟩ := hrel
      by_cases hlt : i < n
      · have hd : decide ((i : Int) < (n : Int)) = true := decide_eq_true (by omega)
        have hiI : (i : Int) < (n : Int) := by omega
        obtain ⟨gl, ol, vr, rfl, hcr, hrr⟩ := hR1.row (m := i) (by rw [← HN.out]; exact hlt)
        obtain ⟨ar, cr, rfl, hr2, hr3, -, -⟩ := id hrr
        unfold maxLen at hr3
        obtain ⟨t, ht⟩ : ∃ t : List Int, t = p.tk i := ⟨_, rfl⟩
        rw [← ht] at hcr hrr hr2
        obtain ⟨M, hM⟩ : ∃ M : Nat, M = t.length := ⟨_, rfl⟩
        rw [← hM] at hcr hr2
        have HM : Hid (M = t.length) := hM
        have HT : Hid (t = p.tk i) := ht
        have HRr : Hid (RdI .i64 w1 (.slice ar M cr) t) := by rw [hM]; exact hrr
        have HFi : Hid (wrM t = false → wrB p = false) := by
          intro e
          exact wr_false (k := i) (by rw [← HN.out]; exact hlt) (by rw [← HT.out]; exact e)
        have hcase : (decide ((M : Int) < 1) = true ∧ (M : Int) < 1 ∧ wrM t = false) ∨ (decide ((M : Int) < 1) = false ∧ (1 : Int) ≤ (M : Int) ∧ decide ((12 : Int) < (M : Int)) = true ∧ (12 : Int) < (M : Int) ∧ wrM t = false) ∨ (decide ((M : Int) < 1) = false ∧ (1 : Int) ≤ (M : Int) ∧ decide ((12 : Int) < (M : Int)) = false ∧ (M : Int) ≤ 12) := by
          have hw : wrM t = (decide (1 ≤ M) && decide (M ≤ 12) && t.all tkB) := by unfold wrM; rw [hM]
          by_cases h1 : M < 1
          · exact .inl ⟨decide_eq_true (by omega), by omega, by rw [hw, decide_eq_false (by omega)]; simp⟩
          · by_cases h2 : 12 < M
            · exact .inr (.inl ⟨decide_eq_false (by omega), by omega, decide_eq_true (by omega), by omega, by rw [hw, decide_eq_false (by omega : ¬ M ≤ 12)]; simp⟩)
            · exact .inr (.inr ⟨decide_eq_false (by omega), by omega, decide_eq_false (by omega), by omega⟩)
        clear hrr ht hM
        rcases hcase with ⟨k1, k2, hf⟩ | ⟨k1, k2, k3, k4, hf⟩ | ⟨k1, k2, k3, k4⟩
        · have HF : Hid (wrB p = false) := HFi.out hf
          clear hf
          go_wp2
          go_ret
          exact ⟨by rw [HF.out]; rfl, hbw⟩
        · have HF : Hid (wrB p = false) := HFi.out hf
          clear hf
          go_wp2
          go_ret
          exact ⟨by rw [HF.out]; rfl, hbw⟩
        · go_wp2
          go_loop [5] (fun jv => ∃ j : Nat, j ≤ M ∧ jv = .int .i64 (j : Int) ∧ Hid (∀ k, k < j → tkB (t.getD k 0) = true)) (fun jv => M - (intOf jv).toNat)
          case atStart => exact ⟨0, by omega, rfl, (by show ∀ k, _; intro k hk; omega)⟩
          case round =>
            obtain ⟨j, hj, rfl, HJ⟩ := hrel
            by_cases hltj : j < M
            · have hdj : decide ((j : Int) < (M : Int)) = true := decide_eq_true (by omega)
              have hjI : (j : Int) < (M : Int) := by omega
              obtain ⟨gr, or, c', ev, -, hcj, -⟩ := HRr.out.cellAt (i := j) (by rw [← HM.out]; exact hltj)
              simp only [Value.slice.injEq] at ev
              obtain ⟨rfl, -, rfl⟩ := ev
              obtain ⟨x, hx⟩ : ∃ x : Int, x = t.getD j 0 := ⟨_, rfl⟩
              rw [← hx] at hcj
              have HX : Hid (x = t.getD j 0) := hx
              have hcase : (decide (x < 1) = true ∧ x < 1 ∧ tkB x = false) ∨ (decide (x < 1) = false ∧ 1 ≤ x ∧ decide (10 < x) = true ∧ 10 < x ∧ tkB x = false) ∨ (decide (x < 1) = false ∧ 1 ≤ x ∧ decide (10 < x) = false ∧ x ≤ 10 ∧ tkB x = true) := by
                unfold tkB
                by_cases h1 : x < 1
                · exact .inl ⟨decide_eq_true h1, h1, by rw [decide_eq_false (by omega)]; rfl⟩
                · by_cases h2 : 10 < x
                  · exact .inr (.inl ⟨decide_eq_false h1, by omega, decide_eq_true h2, h2, by rw [decide_eq_false (by omega : ¬ x ≤ 10)]; simp⟩)
                  · exact .inr (.inr ⟨decide_eq_false h1, by omega, decide_eq_false h2, by omega, by rw [decide_eq_true (by omega), decide_eq_true (by omega)]; rfl⟩)
              have HFj : Hid (tkB x = false → wrB p = false) := by
                intro e
                exact HFi.out (wrM_false (j := j) (by rw [← HM.out]; exact hltj) (by rw [← HX.out]; exact e))
              clear hx
              rcases hcase with ⟨q1, q2, hf⟩ | ⟨q1, q2, q3, q4, hf⟩ | ⟨q1, q2, q3, q4, hf⟩
              · have HF : Hid (wrB p = false) := HFj.out hf
                clear hf
                go_wp2
                go_ret
                exact ⟨by rw [HF.out]; rfl, hbw⟩
              · have HF : Hid (wrB p = false) := HFj.out hf
                clear hf
                go_wp2
                go_ret
                exact ⟨by rw [HF.out]; rfl, hbw⟩
              · have HO : Hid (tkB x = true) := hf
                clear hf
                go_wp2
                go_round
                case rel => exact ⟨j + 1, by omega, by go_num, (by show ∀ k, _; intro k hk; rcases Nat.lt_or_ge k j with h | h; exact HJ.out k h; rw [show k = j by omega, ← HX.out]; exact HO.out)⟩
                case measure => simp [intOf] <;> omega
            · have hdj : decide ((j : Int) < (M : Int)) = false := decide_eq_false (by omega)
              have hjI : (M : Int) ≤ (j : Int) := by omega
              have HO : Hid (wrM (p.tk i) = true) := by
                show _ = _
                rw [← HT.out]
                have hm := HM.out
                exact wrM_true (by omega) (by omega) fun k hk => HJ.out k (by omega)
              go_wp2
              go_round
              case rel => exact ⟨i + 1, by omega, by go_num, (by show ∀ k, _; intro k hk; rcases Nat.lt_or_ge k i with h | h; exact HI.out k h; rw [show k = i by omega]; exact HO.out)⟩
              case measure => simp [intOf] <;> omega
      · have hd : decide ((i : Int) < (n : Int)) = false := decide_eq_false (by omega)
        have hiI : (n : Int) ≤ (i : Int) := by omega
        have HO : Hid (wrB p = true) := by
          show _ = _
          have hn := HN.out
          exact wr_true HNm.out.symm (by omega) (by omega) fun k hk => HI.out k (by omega)
        go_wp2
        go_ret
        exact ⟨by rw [HO.out]; rfl, hbw⟩
end Go.Proofs.YtpoibhhijidobabGreatDoor

/- How often the document says a token was said: contracts of the reference of layer 15, sixth part. -/
namespace Go.Proofs.YtpoibhhijidobabGreatDoor
open Go.ChangeShapes Go.WideShapes Go.ChangeAt Go.RowKit
set_option linter.unusedSimpArgs false
set_option linter.unusedVariables false

end Go.Proofs.YtpoibhhijidobabGreatDoor

/- Whether a side has a key, and which token may come: contracts of the reference of layer 15, seventh part. -/
namespace Go.Proofs.YtpoibhhijidobabGreatDoor
open Go.ChangeShapes Go.WideShapes Go.ChangeAt Go.RowKit
set_option linter.unusedSimpArgs false
set_option linter.unusedVariables false

theorem ptInfo (p : Ptn) (vi vl : Value) : (Tryz.prog.info? 36).map (·.size) = some (ptC p vi vl).length := by
  show _ = some 5
  kernel_rfl
/-- A struct is loaded as a whole, where a guard says yes. -/
theorem wpList_load_blkG {P : Program} {ops : Array Oper} {rest : List Oper} {op : Oper} {a : Act} {w : World} {Q : Exit → Act → World → Prop} (hw : Region.wanted op (yielded ops a.tmps) = true) (ty : TypeId) (x : Operand) (ho : op.op = .load ty x)
    {g o : Nat} (hx : a.eval x = .pointer (some ⟨g, o, none⟩)) {bt : TypeId} {pre mid post : List Value} (hb : BlkAt g bt (pre ++ mid ++ post) w) (hp : pre.length = o) {d : TypeDesc}
    (hu : P.underlying ty = some d) (hd : d.isRow = true) (hi : (P.info? ty).map (·.size) = some mid.length) (h : wpList P ops Q rest (a.put op.dst (.agg mid.toArray)) w) : wpList P ops Q (op :: rest) a w := by
  refine wpList_step fun K hK => ?_
  rw [if_pos hw]
  unfold Oper.wp
  rw [exec_load_blk ty x ho hx hb hp hu hd hi]
  exact hK _ _ h

end Go.Proofs.YtpoibhhijidobabGreatDoor

/- Which pattern a text tells: plain mathematics. No program's text is named. -/
namespace Go.Proofs.YtpoibhhijidobabGreatDoor
open Go.ChangeShapes Go.WideShapes Go.ChangeAt Go.RowKit
set_option linter.unusedSimpArgs false
set_option linter.unusedVariables false

theorem tfT_len : ∀ s : List UInt8, (tfT s).length ≤ s.length
  | [] => Nat.le_refl _
  | x :: t => by
    unfold tfT
    split
    · have := tfT_len t
      simp
      omega
    · exact Nat.le_refl _
theorem tmT_len (s : List UInt8) : (tmT s).length ≤ s.length := by
  unfold tmT teT
  rw [List.length_reverse]
  have h1 := tfT_len (tfT s).reverse
  have h2 := tfT_len s
  rw [List.length_reverse] at h1
  omega
/-- The first i parts, without blanks, those that are not empty. -/
def lnT (ps : List (List UInt8)) (i : Nat) : List (List UInt8) := ((ps.take i).map tmT).filter fun l => !l.isEmpty
def lnS (s : List UInt8) : List (List UInt8) := ((splL 10 s).map tmT).filter fun l => !l.isEmpty
theorem lnT_next (ps : List (List UInt8)) (i : Nat) (h : i < ps.length) : lnT ps (i + 1) = if tmT ps[i] = [] then lnT ps i else lnT ps i ++ [tmT ps[i]] := by
  unfold lnT
  rw [List.take_add_one, List.getElem?_eq_getElem h, List.map_append, List.filter_append]
  split
  · rename_i h2
    simp [h2]
  · rename_i h2
    have h3 : (tmT ps[i]).isEmpty = false := by simpa using h2
    simp [h3]
theorem lnT_end (s : List UInt8) : lnT (splL 10 s) (splL 10 s).length = lnS s := by
  unfold lnT lnS
  rw [List.take_length]
theorem lnT_le (ps : List (List UInt8)) (i : Nat) : (lnT ps i).length ≤ i := by
  unfold lnT
  refine Nat.le_trans (List.length_filter_le _ _) ?_
  rw [List.length_map, List.length_take]
  omega
theorem lnL_mem {s x : List UInt8} (h : x ∈ lnS s) : x ≠ [] ∧ x.length ≤ s.length := by
  unfold lnS at h
  obtain ⟨h1, h2⟩ := List.mem_filter.1 h
  obtain ⟨y, hy, rfl⟩ := List.mem_map.1 h1
  exact ⟨by simpa using h2, Nat.le_trans (tmT_len y) (splL_len 10 s y hy)⟩
/-- Three dots. -/
def dotT : List UInt8 := [46, 46, 46]
/-- The dots' place, looked for from the end: c places were looked at. -/
def dtR (l : List (List UInt8)) : Nat → Int
  | 0 => -1
  | c + 1 => if l.getD (l.length - 1 - c) [] = dotT then ((l.length - 1 - c : Nat) : Int) else dtR l c
/-- What a line makes of a pattern: the i-th. -/
def stLn (d : Int) (i : Nat) (b : Bool) (t : List Int) (o : Bool) (p : Ptn) : Option Ptn :=
  if (i : Int) = d then some p
  else if o = false then none
  else if d < (i : Int) then some ⟨p.name, p.ki, p.kr, p.ms ++ [(b, t)]⟩
  else if t.length ≠ 1 ∨ t.getD 0 0 ≠ 2 ∨ p.kr = true ∨ (b = true ∧ p.ki = true) then none
  else if b = true then some ⟨p.name, true, p.kr, p.ms⟩ else some ⟨p.name, p.ki, true, p.ms⟩
theorem dtR_next (l : List (List UInt8)) (c j : Nat) (hj : j = l.length - 1 - c) : dtR l (c + 1) = if l.getD j [] = dotT then (j : Int) else dtR l c := by
  subst hj
  rfl
theorem dtR_bound (l : List (List UInt8)) : ∀ c, -1 ≤ dtR l c ∧ dtR l c ≤ l.length
  | 0 => by
    show -1 ≤ (-1 : Int) ∧ (-1 : Int) ≤ l.length
    omega
  | c + 1 => by
    have := dtR_bound l c
    unfold dtR
    split <;> omega
def zeP : Ptn := ⟨[], false, false, []⟩
end Go.Proofs.YtpoibhhijidobabGreatDoor

/- Words for the reading of patterns, and for rows that are made while a pattern is: contracts of the reference of layer 15, fourteenth part. -/
namespace Go.Proofs.YtpoibhhijidobabGreatDoor
open Go.ChangeShapes Go.WideShapes Go.ChangeAt Go.RowKit
set_option linter.unusedSimpArgs false
set_option linter.unusedVariables false

/-- One line's part in a pattern. -/
def lnP (d : Int) (i : Nat) (x : List UInt8) (p : Ptn) : Option Ptn := stLn d i (decide (x.getD 0 0 = 45)) (nIs (msgL x)) (msgB x) p
/-- The lines from the first up to the i-th. -/
def rnP (d : Int) (l : List (List UInt8)) (p : Ptn) : Nat → Option Ptn
  | 0 => some p
  | i + 1 => (rnP d l p i).bind (lnP d (i + 1) (l.getD (i + 1) []))
/-- What the lines' pattern is answered as. -/
def psE : Option Ptn → Ptn × Int
  | none => (zeP, 20)
  | some p => if wrB p then (p, 0) else (zeP, 20)
/-- What Parse answers. -/
def psA (s : List UInt8) : Ptn × Int :=
  if 4096 < s.length then (zeP, 1)
  else if lnS s = [] ∨ ((lnS s).getD 0 []).getD (((lnS s).getD 0 []).length - 1) 0 ≠ 58 then (zeP, 20)
  else if dtR (lnS s) ((lnS s).length - 1) = 1 then (zeP, 20)
  else psE (rnP (dtR (lnS s) ((lnS s).length - 1)) (lnS s) ⟨tmT (((lnS s).getD 0 []).take (((lnS s).getD 0 []).length - 1)), false, false, []⟩ ((lnS s).length - 1))
theorem rnP_none (d : Int) (l : List (List UInt8)) (p : Ptn) (i : Nat) (h : rnP d l p i = none) : ∀ k, rnP d l p (i + k) = none
  | 0 => h
  | k + 1 => by
    show (rnP d l p (i + k)).bind _ = none
    rw [rnP_none d l p i h k]
    rfl
theorem rnP_step (d : Int) (l : List (List UInt8)) (p0 p : Ptn) (i j : Nat) (hi : i = j + 1) (h : rnP d l p0 j = some p) (x : List UInt8) (hx : l.getD i [] = x) : rnP d l p0 i = lnP d i x p := by
  subst hi hx
  show (rnP d l p0 j).bind _ = _
  rw [h]
  rfl
/-- What else the call has made: the tokens' rows and the lines. -/
structure Rst (rest : List Rw) (vs : List Value) (p : Ptn) (lines : Rw) : Prop where
  len : vs.length = p.n
  toks : ∀ k (h : k < vs.length), (⟨3, 1, vs[k], (p.tk k).length, (p.tk k).map (Value.int .i64)⟩ : Rw) ∈ rest
  lines : lines ∈ rest
  kinds : ∀ q ∈ rest, q.ty = 3 ∨ q.ty = 9
theorem Rst.next {rest : List Rw} {vs : List Value} {p : Ptn} {ln : Rw} (h : Rst rest vs p ln) (b : Bool) (t : List Int) (v : Value) : Rst (⟨3, 1, v, t.length, t.map (Value.int .i64)⟩ :: rest) (vs ++ [v]) ⟨p.name, p.ki, p.kr, p.ms ++ [(b, t)]⟩ ln := by
  have hl : vs.length = p.ms.length := h.len
  refine ⟨by simp [Ptn.n, hl], fun k hk => ?_, List.mem_cons_of_mem _ h.lines, fun q hq => ?_⟩
  · by_cases hk2 : k < vs.length
    · have e1 : (vs ++ [v])[k] = vs[k] := List.getElem_append_left hk2
      have e2 : Ptn.tk ⟨p.name, p.ki, p.kr, p.ms ++ [(b, t)]⟩ k = p.tk k := by
        unfold Ptn.tk
        have : k < p.ms.length := by omega
        simp [List.getD, List.getElem?_append_left this]
      rw [e1, e2]
      exact List.mem_cons_of_mem _ (h.toks k hk2)
    · have hke : k = vs.length := by simp at hk; omega
      subst hke
      have e1 : (vs ++ [v])[vs.length] = v := by simp
      have e2 : Ptn.tk ⟨p.name, p.ki, p.kr, p.ms ++ [(b, t)]⟩ vs.length = t := by
        unfold Ptn.tk
        rw [hl]
        simp [List.getD]
      rw [e1, e2]
      exact List.mem_cons_self ..
  · rcases List.mem_cons.1 hq with rfl | hq
    · exact .inl rfl
    · exact h.kinds q hq
theorem infoBool : (Tryz.prog.info? 4).map (fun i => (i.zero, i.size, i.bytes)) = some (some (.bool false), 1, 1) := by kernel_rfl
theorem infoSl : (Tryz.prog.info? 63).map (fun i => (i.zero, i.size, i.bytes)) = some (some (.slice none 0 0), 1, 24) := by kernel_rfl
theorem bodyPost_blk2 {P : Program} {fn : Func} {p q : Tmp} {ty bt : TypeId} {g : Nat} {cs : List Value} {d : TypeDesc} {v : Value} {R : Ending → World → Prop} {a : Act} {w : World} (h : fn.results = #[.cell p ty, .tmp q]) (hd : a.defers = [])
    (hp : a.tmps.getD p undef = .pointer (some ⟨g, 0, none⟩)) (hq : a.tmps.getD q undef = v) (hb : BlkAt g bt cs w) (hu : P.underlying ty = some d) (hrow : d.isRow = true) (hi : (P.info? ty).map (·.size) = some cs.length)
    (hR : R (.returned (.tuple #[.agg cs.toArray, v])) w) : bodyPost P fn R .ret a w := by
  refine bodyPost_ret ?_ hd hR
  have hp' : a.tmps[p]?.getD undef = .pointer (some ⟨g, 0, none⟩) := by simpa using hp
  have hq' : a.tmps[q]?.getD undef = v := by simpa using hq
  have hb' : BlkAt g bt (([] : List Value) ++ cs ++ []) w := by simpa using hb
  have hl := run_loadVar_mid (P := P) w g 0 ty cs d hb'.range hu hrow hi
  simp [results, h, hp', hq', asAddr, hl]
theorem row_not_blk {w : World} {base sz n g : Nat} {e ty : TypeId} {v : Value} {xs cs : List Value} (h : w.ownsRow base e sz v n xs) (hb : BlkAt g ty cs w) (hne : e ≠ ty) : v.ownBlock ≠ some g := by
  rcases h.2 with ⟨rfl, h0⟩ | ⟨g', cap, cur, rfl, hb', hg, hn, hm, hs, ht⟩
  · simp [Value.ownBlock]
  · intro h
    have h1 : g' = g := by simpa [Value.ownBlock] using h
    subst h1
    unfold BlkAt at hb
    rw [hg] at hb
    simp at hb
    exact hne hb.2
/-- None of the rows lies where a pattern lies. -/
theorem Rst.far {rest : List Rw} {vs : List Value} {p : Ptn} {ln : Rw} (h : Rst rest vs p ln) {w w' : World} {g : Nat} {v1 v2 : Value} {n1 n2 : Nat} {x1 x2 cs : List Value} (hO : OwnG w (⟨4, 1, v1, n1, x1⟩ :: ⟨63, 1, v2, n2, x2⟩ :: rest) w') (hb : BlkAt g 36 cs w') :
    ∀ q ∈ (⟨4, 1, v1, n1, x1⟩ :: ⟨63, 1, v2, n2, x2⟩ :: rest : List Rw), ∀ b, q.v.ownBlock = some b → b ≠ g := fun q hq b hqb e => by
  have hty : q.ty ≠ 36 := by
    rcases List.mem_cons.1 hq with rfl | hq
    · exact (show (4 : TypeId) ≠ 36 by decide)
    · rcases List.mem_cons.1 hq with rfl | hq
      · exact (show (63 : TypeId) ≠ 36 by decide)
      · rcases h.kinds q hq with h | h <;> rw [h] <;> decide
  exact row_not_blk (hO.rows q hq) hb hty (by rw [hqb, e])
theorem allocPt (w : World) : (Instr.alloc 36 true (.tuple #[])).run Tryz.prog w = .ok (.pointer (some ⟨w.heap.size, 0, none⟩)) (w.alloc (.cells (ptC zeP (.slice none 0 0) (.slice none 0 0)).toArray 36)) := by kernel_rfl
theorem buildPt (w : World) : (Instr.build 36 #[]).run Tryz.prog w = .ok (.agg (ptC zeP (.slice none 0 0) (.slice none 0 0)).toArray) w := by kernel_rfl
theorem ptC_all (p : Ptn) (ai al : Option Addr) (ni ci nl cl : Nat) : (ptC p (.slice ai ni ci) (.slice al nl cl)).toArray.all (·.oneCell') = true := all_oneCell_toArray (by
  intro v hv
  simp only [ptC, List.mem_cons, List.not_mem_nil, or_false] at hv
  rcases hv with rfl | rfl | rfl | rfl | rfl <;> rfl)
theorem whole15 (l : List Value) : l = [] ++ l ++ [] := by simp
theorem cellDK15 {w W : World} {p : Addr} {v : Value} (h : w.cell? p = some v) (hb : Below w.drew.heap.size w.drew W) : W.cell? p = some v := by
  have h2 : w.drew.cell? p = some v := h
  rw [hb.cell (World.block_lt_of_cell? _ _ h2)]
  exact h2
theorem zeP_rd (w : World) : PtR w zeP (.slice none 0 0) (.slice none 0 0) := ⟨RdC.nil w, [], RdC.nil w, rfl, fun k hk => by cases hk⟩
/-- Nothing is told. -/
theorem refuse15 {s : List UInt8} {c : Int} {w w' : World} (hA : psA s = (zeP, c)) (hb : Below w.heap.size w w') :
    ∃ vi vl, Ending.returned (.tuple #[.agg (ptC zeP (.slice none 0 0) (.slice none 0 0)).toArray, .int .i64 c]) = .returned (.tuple #[.agg (ptC (psA s).1 vi vl).toArray, .int .i64 (psA s).2]) ∧ PtR w' (psA s).1 vi vl ∧ Below w.heap.size w w' :=
  ⟨.slice none 0 0, .slice none 0 0, by rw [hA], by rw [hA]; exact zeP_rd _, hb⟩
/-- A slice of one element is put together. -/
theorem wpList_buildS {P : Program} {ops : Array Oper} {rest : List Oper} {op : Oper} {a : Act} {w : World} {Q : Exit → Act → World → Prop} (hgd : op.guard = none) (t : TypeId) (x : Operand) (ho : op.op = .buildSlice t 1 #[(0, x)])
    (V : Value) (hx : a.eval x = V) (e : TypeId) (g : Nat) (hg : w.heap.size = g) (hrun : (Instr.buildSlice t 1 #[(0, V)]).run P w = .ok (.slice (some ⟨w.heap.size, 0, none⟩) 1 1) (w.alloc (.cells #[V] e)))
    (h : wpList P ops Q rest (a.put op.dst (.slice (some ⟨g, 0, none⟩) 1 1)) (w.alloc (.cells #[V] e))) : wpList P ops Q (op :: rest) a w := by
  subst hg
  refine wpList_plain hgd fun K hK => ?_
  unfold Oper.wp execOp
  simp only [ho, List.map_toArray, List.map_cons, List.map_nil, hx, Sem.run_bind, hrun, Result.andThen_ok, Sem.run_pure]
  exact hK _ _ h
theorem build_sl (a : Option Addr) (n c : Nat) (w : World) : (Instr.buildSlice 34 1 #[(0, .slice a n c)]).run Tryz.prog w = .ok (.slice (some ⟨w.heap.size, 0, none⟩) 1 1) (w.alloc (.cells #[.slice a n c] 63)) := by kernel_rfl
theorem stC_at (ls : List (List UInt8)) (i : Nat) (h : i < ls.length) : (stC ls)[i]'(by rw [stC_length]; exact h) = .string ⟨ls[i].toArray⟩ := by simp [stC]
end Go.Proofs.YtpoibhhijidobabGreatDoor

/- The patterns that are given: contracts of the reference of layer 15, fifteenth part. -/
namespace Go.Proofs.YtpoibhhijidobabGreatDoor
open Go.ChangeShapes Go.WideShapes Go.ChangeAt Go.RowKit
set_option linter.unusedSimpArgs false
set_option linter.unusedVariables false

def gvN0 : List UInt8 := [73, 75]
def gvT0 : List UInt8 := [73, 75, 58, 10, 32, 32, 60, 45, 32, 115, 10, 32, 32, 46, 46, 46, 10, 32, 32, 45, 62, 32, 115, 107, 101, 109, 44, 32, 101, 44, 32, 101, 49, 44, 32, 101, 115, 44, 32, 115, 44, 32, 115, 115, 10, 32, 32, 60, 45, 32, 101, 107, 101, 109, 44, 32, 115, 107, 101, 109, 44, 32, 101, 44, 32, 101, 101, 44, 32, 115, 101, 10]
def gvN1 : List UInt8 := [75, 75]
def gvT1 : List UInt8 := [75, 75, 58, 10, 32, 32, 45, 62, 32, 115, 10, 32, 32, 60, 45, 32, 115, 10, 32, 32, 46, 46, 46, 10, 32, 32, 45, 62, 32, 115, 107, 101, 109, 44, 32, 101, 44, 32, 101, 49, 44, 32, 101, 115, 44, 32, 115, 115, 10, 32, 32, 60, 45, 32, 101, 107, 101, 109, 44, 32, 115, 107, 101, 109, 44, 32, 101, 44, 32, 101, 101, 44, 32, 115, 101, 10]
def gvN2 : List UInt8 := [78, 75]
def gvT2 : List UInt8 := [78, 75, 58, 10, 32, 32, 60, 45, 32, 115, 10, 32, 32, 46, 46, 46, 10, 32, 32, 45, 62, 32, 115, 107, 101, 109, 44, 32, 101, 44, 32, 101, 49, 44, 32, 101, 115, 10, 32, 32, 60, 45, 32, 101, 107, 101, 109, 44, 32, 101, 44, 32, 101, 101, 10]
def gvN3 : List UInt8 := [78, 78]
def gvT3 : List UInt8 := [78, 78, 58, 10, 32, 32, 45, 62, 32, 101, 44, 32, 101, 49, 10, 32, 32, 60, 45, 32, 101, 107, 101, 109, 44, 32, 101, 44, 32, 101, 101, 10]
def gvN4 : List UInt8 := [78, 78, 112, 115, 107]
def gvT4 : List UInt8 := [78, 78, 112, 115, 107, 58, 10, 32, 32, 45, 62, 32, 101, 44, 32, 101, 49, 10, 32, 32, 60, 45, 32, 101, 107, 101, 109, 44, 32, 101, 44, 32, 101, 101, 44, 32, 112, 115, 107, 10]
def gvN5 : List UInt8 := [88, 88]
def gvT5 : List UInt8 := [88, 88, 58, 10, 32, 32, 45, 62, 32, 101, 44, 32, 101, 49, 10, 32, 32, 60, 45, 32, 101, 107, 101, 109, 44, 32, 101, 44, 32, 101, 101, 44, 32, 115, 44, 32, 101, 115, 10, 32, 32, 45, 62, 32, 115, 107, 101, 109, 44, 32, 115, 44, 32, 115, 101, 10, 32, 32, 60, 45, 32, 115, 107, 101, 109, 10]
/-- Names and texts, in their order. -/
def gvL : List (List (List UInt8)) := [[gvN0, gvT0], [gvN1, gvT1], [gvN2, gvT2], [gvN3, gvT3], [gvN4, gvT4], [gvN5, gvT5]]

end Go.Proofs.YtpoibhhijidobabGreatDoor

/- A region whose order is open, walked once, where one operation waits for all others and may write what it likes; what holds behind every other one is a condition of one's own. No program's text is named. -/
namespace Go.Proofs.YtpoibhhijidobabGreatDoor
set_option linter.unusedSimpArgs false
set_option linter.unusedVariables false
open Go.RowKit

section
variable {P : Program} {ops : Array Oper} {Q : Exit → Act → World → Prop} {md : Region.Mode} {S : World → Prop} {n : Nat}

theorem wpU_begin (n : Nat) (S : World → Prop) {id : Nat} {a : Act} {w : World} (hm : P.follows .mixedOrders = true)
    (h : wpAnyE P .any ops (NoPanic Q) S n ops.size (Array.replicate ops.size false) a w.drew) : (Code.region id ops true).wp P Q a w :=
  wp_region_noPanic (wp_region_any hm (wpAny_of_E _ _ _ _ h))
theorem wpU_take {i : Nat} {oi : Oper} {v : Value} {fuel : Nat} {listed : Array Bool} {a : Act} {w : World} (hS : S w) (hi : ops[i]? = some oi) (hin : i ≠ n) (hl : lastB md ops n = true)
    (hs : Region.noSelect ops = true) (hf : Region.free md ops listed i = true) (hr : (Region.ready md ops listed).contains i = true)
    (hw : Region.wanted oi (yielded ops a.tmps) = true) (hy : ∀ W, S W → (execOp a.eval oi).run P W = .ok (.value v) W)
    (h : wpAnyE P md ops (NoPanic Q) S n fuel (listed.setIfInBounds i true) (a.put oi.dst v) w) : wpAnyE P md ops (NoPanic Q) S n (fuel + 1) listed a w :=
  wpAnyE_first hi hin hl (Region.noSelect_spec hs) (fun _ _ _ h => h) fuel listed a w (Region.free_spec hi hf) (by simpa using hr) (.inl ⟨hw, hy⟩) hS h
theorem wpU_do {i : Nat} {o : Oper} {fuel : Nat} {listed : Array Bool} {a : Act} {w : World} (hr : Region.ready md ops listed = [i]) (hi : ops[i]? = some o)
    (hw : Region.wanted o (yielded ops a.tmps) = true)
    (h : ∀ K : Act → World → Prop, Shut (∀ a' w', S w' → wpAnyE P md ops Q S n fuel (listed.setIfInBounds i true) a' w' → K a' w') → o.wp P a w K Q) : wpAnyE P md ops Q S n (fuel + 1) listed a w := by
  refine ⟨(fun h0 => by rw [hr] at h0; cases h0), fun j hj => ?_⟩
  rw [hr] at hj
  obtain rfl : j = i := by simpa using hj
  have h1 := h (fun a' w' => (j = n ∨ S w') ∧ wpAnyE P md ops Q S n fuel (listed.setIfInBounds j true) a' w') (fun a' w' hb hg => ⟨.inr hb, hg⟩)
  unfold wpOp
  simp only [hi, hw, if_true]
  exact .inl h1
theorem wpU_last {o : Oper} {fuel : Nat} {listed : Array Bool} {a : Act} {w : World} (hr : Region.ready md ops listed = [n]) (hr2 : Region.ready md ops (listed.setIfInBounds n true) = []) (hi : ops[n]? = some o)
    (hw : Region.wanted o (yielded ops a.tmps) = true)
    (h : ∀ K : Act → World → Prop, Shut (∀ a' w', Q .normal a' w' → K a' w') → o.wp P a w K (NoPanic Q)) : wpAnyE P md ops (NoPanic Q) S n (fuel + 1) listed a w := by
  refine ⟨(fun h0 => by rw [hr] at h0; cases h0), fun j hj => ?_⟩
  rw [hr] at hj
  obtain rfl : j = n := by simpa using hj
  have hdone : ∀ fuel a' w', Q .normal a' w' → wpAnyE P md ops (NoPanic Q) S j fuel (listed.setIfInBounds j true) a' w' := by
    intro fuel a' w' hq
    cases fuel with
    | zero => exact ⟨hr2, hq⟩
    | succ fuel => exact ⟨fun _ => hq, by rw [hr2]; intro i hi; cases hi⟩
  have h1 := h (fun a' w' => (j = j ∨ S w') ∧ wpAnyE P md ops (NoPanic Q) S j fuel (listed.setIfInBounds j true) a' w')
    (fun a' w' hq => ⟨.inl rfl, hdone fuel a' w' hq⟩)
  unfold wpOp
  simp only [hi, hw, if_true]
  exact .inl (Oper.wp_mono (fun a' w' h => ⟨.inl trivial, h.2⟩) h1)
end
end Go.Proofs.YtpoibhhijidobabGreatDoor

/- A pattern's text is read as the pattern: plain mathematics. -/
namespace Go.Proofs.YtpoibhhijidobabGreatDoor
set_option linter.unusedSimpArgs false
set_option linter.unusedVariables false

theorem splL_app (c : UInt8) : ∀ (a t : List UInt8), splL c (a ++ c :: t) = splL c a ++ splL c t
  | [], t => by simp [splL]
  | x :: a, t => by
    have ih := splL_app c a t
    by_cases h : x = c
    · show splL c (x :: (a ++ c :: t)) = splL c (x :: a) ++ splL c t
      simp only [splL, if_pos h]
      rw [ih]
      rfl
    · obtain ⟨p, ps, e⟩ : ∃ p ps, splL c a = p :: ps := List.exists_cons_of_ne_nil (splL_ne c a)
      have e2 := splL_cons c x h (a ++ c :: t) p (ps ++ splL c t) (by rw [ih, e]; rfl)
      rw [splL_cons c x h a p ps e]
      exact e2
theorem splL_lines : ∀ (ls : List (List UInt8)), (∀ l ∈ ls, ∀ x ∈ l, x ≠ 10) → splL 10 (ls.flatMap fun l => l ++ [10]) = ls ++ [[]]
  | [], _ => by simp [splL]
  | l :: ls, h => by
    have ih := splL_lines ls (fun l hl => h l (List.mem_cons_of_mem _ hl))
    rw [List.flatMap_cons, List.append_assoc, List.singleton_append, splL_cut 10 l _ (h l (List.mem_cons_self ..)), ih]
    rfl
theorem tmT_nb (s : List UInt8) (h0 : s.getD 0 0 ≠ 32) (h1 : s.getD (s.length - 1) 0 ≠ 32) : tmT s = s := by
  have := tmT_part s 0 s.length (fun i hi => by omega) (by omega) (by omega) (.inr h0) (fun i a b => by omega) (.inr h1)
  rw [this]
  simp
theorem tmT_blank (s : List UInt8) : tmT (32 :: s) = tmT s := by
  unfold tmT
  simp [tfT]
theorem last_app (A w : List UInt8) (h : w ≠ []) : (A ++ w).getD ((A ++ w).length - 1) 0 = w.getD (w.length - 1) 0 := by
  have : 0 < w.length := List.length_pos_iff.2 h
  rw [List.getD_eq_getElem?_getD, List.getD_eq_getElem?_getD, List.getElem?_append_right (by rw [List.length_append]; omega), List.length_append]
  congr 2
  omega
theorem getD_mem {w : List UInt8} {i : Nat} (h : i < w.length) : w.getD i 0 ∈ w := by
  rw [List.getD_eq_getElem?_getD, List.getElem?_eq_getElem h]
  exact List.getElem_mem h
/-- The tokens' words: none is empty; no blank, comma or line feed; each has its number. -/
theorem wd_facts (k : Nat) (h1 : 1 ≤ k) (h2 : k ≤ 10) : wdL.getD k [] ≠ [] ∧ (∀ x ∈ wdL.getD k [], x ≠ 32 ∧ x ≠ 44 ∧ x ≠ 10) ∧ tokN (wdL.getD k []) = k := by
  have h : ∀ k : Fin 11, 1 ≤ k.val → (wdL.getD k.val [] ≠ [] ∧ ((wdL.getD k.val []).all fun x => decide (x ≠ 32 ∧ x ≠ 44 ∧ x ≠ 10)) = true ∧ tokN (wdL.getD k.val []) = k.val) := by decide
  obtain ⟨a, b, c⟩ := h ⟨k, by omega⟩ h1
  exact ⟨a, fun x hx => of_decide_eq_true (List.all_eq_true.1 b x hx), c⟩
/-- The k-th word of a row. -/
def wdK (t : List Int) (k : Nat) : List UInt8 := wdL.getD (t.getD k 0).toNat []
/-- All tokens are such. -/
def TkS (t : List Int) : Prop := ∀ j, j < t.length → 1 ≤ t.getD j 0 ∧ t.getD j 0 ≤ 10
theorem wdK_facts {t : List Int} (h : TkS t) {k : Nat} (hk : k < t.length) : wdK t k ≠ [] ∧ (∀ x ∈ wdK t k, x ≠ 32 ∧ x ≠ 44 ∧ x ≠ 10) ∧ tokN (wdK t k) = (t.getD k 0).toNat := by
  have := h k hk
  exact wd_facts _ (by omega) (by omega)
theorem txR_next (t : List Int) (j : Nat) (h : 1 ≤ j) : txR t (j + 1) = txR t j ++ 44 :: 32 :: wdK t j := by
  show txR t j ++ (if 0 < j then [44, 32] else []) ++ wdK t j = _
  rw [if_pos (by omega), List.append_assoc]
  rfl
theorem txR_one (t : List Int) : txR t 1 = wdK t 0 := by
  show [] ++ (if 0 < 0 then [44, 32] else []) ++ wdK t 0 = _
  simp
theorem txR_parts {t : List Int} (h : TkS t) : ∀ j, j < t.length → splL 44 (32 :: txR t (j + 1)) = (List.range (j + 1)).map fun k => 32 :: wdK t k
  | 0, hj => by
    have hw := (wdK_facts h hj).2.1
    rw [txR_one, splL_last 44 _ (by
      intro x hx
      rcases List.mem_cons.1 hx with rfl | hx
      · decide
      · exact (hw x hx).2.1)]
    rfl
  | j + 1, hj => by
    have ih := txR_parts h j (by omega)
    have hw := (wdK_facts h hj).2.1
    rw [txR_next t (j + 1) (by omega), ← List.cons_append, splL_app, ih, splL_last 44 (32 :: wdK t (j + 1)) (by
      intro x hx
      rcases List.mem_cons.1 hx with rfl | hx
      · decide
      · exact (hw x hx).2.1), List.range_succ (n := j + 1), List.map_append]
    rfl
theorem txR_mem {t : List Int} (h : TkS t) : ∀ j, j ≤ t.length → ∀ x ∈ txR t j, x ≠ 10
  | 0, _, x, hx => by cases hx
  | j + 1, hj, x, hx => by
    have hw := (wdK_facts h (k := j) (by omega)).2.1
    have hx2 : x ∈ txR t j ++ (if 0 < j then [44, 32] else []) ++ wdK t j := hx
    rcases List.mem_append.1 hx2 with hx | hx
    · rcases List.mem_append.1 hx with hx | hx
      · exact txR_mem h j (by omega) x hx
      · split at hx
        · simp at hx
          rcases hx with rfl | rfl <;> decide
        · cases hx
    · exact (hw x hx).2.2
theorem txR_last {t : List Int} (h : TkS t) (j : Nat) (hj : j < t.length) : txR t (j + 1) ≠ [] ∧ (txR t (j + 1)).getD ((txR t (j + 1)).length - 1) 0 ≠ 32 := by
  obtain ⟨h1, h2, -⟩ := wdK_facts h hj
  have e : txR t (j + 1) = (txR t j ++ (if 0 < j then [44, 32] else [])) ++ wdK t j := rfl
  rw [e]
  refine ⟨by simp [h1], ?_⟩
  rw [last_app _ _ h1]
  exact (h2 _ (getD_mem (by have : 0 < (wdK t j).length := List.length_pos_iff.2 h1; omega))).1
/-- A message's line, without the blanks ahead of it. -/
def mLn (b : Bool) (t : List Int) : List UInt8 := (if b then [45, 62] else [60, 45]) ++ 32 :: txR t t.length
theorem mLn_trim {t : List Int} (h : TkS t) (hn : 1 ≤ t.length) (b : Bool) : tmT (txD b ++ txR t t.length) = mLn b t := by
  obtain ⟨j, hj⟩ : ∃ j, t.length = j + 1 := ⟨t.length - 1, by omega⟩
  obtain ⟨h1, h2⟩ := txR_last h j (by omega)
  have e : txD b ++ txR t t.length = 32 :: 32 :: mLn b t := by cases b <;> rfl
  rw [e, tmT_blank, tmT_blank]
  have h0 : (mLn b t).getD 0 0 ≠ 32 := by
    cases b
    · show (60 : UInt8) ≠ 32
      decide
    · show (45 : UInt8) ≠ 32
      decide
  refine tmT_nb _ h0 ?_
  unfold mLn
  rw [show (if b = true then [45, 62] else [60, 45] : List UInt8) ++ 32 :: txR t t.length = ((if b = true then [45, 62] else [60, 45]) ++ [32]) ++ txR t t.length by simp, hj, last_app _ _ h1]
  exact h2
theorem mLn_msg {t : List Int} (h : TkS t) (hn : 1 ≤ t.length) (b : Bool) : msgB (mLn b t) = true ∧ nIs (msgL (mLn b t)) = t ∧ decide ((mLn b t).getD 0 0 = 45) = b := by
  obtain ⟨j, hj⟩ : ∃ j, t.length = j + 1 := ⟨t.length - 1, by omega⟩
  have ed : (mLn b t).drop 2 = 32 :: txR t (j + 1) := by unfold mLn; rw [hj]; cases b <;> rfl
  have em : msgL (mLn b t) = (List.range (j + 1)).map fun k => (t.getD k 0).toNat := by
    unfold msgL
    rw [ed, txR_parts h j (by omega), List.map_map]
    refine List.map_congr_left fun k hk => ?_
    have hk2 : k < t.length := by have := List.mem_range.1 hk; omega
    obtain ⟨h1, h2, h3⟩ := wdK_facts h hk2
    have hp : 0 < (wdK t k).length := List.length_pos_iff.2 h1
    show tokN (tmT (32 :: wdK t k)) = _
    rw [tmT_blank, tmT_nb _ (h2 _ (getD_mem hp)).1 (h2 _ (getD_mem (by omega))).1, h3]
  refine ⟨?_, ?_, by cases b <;> rfl⟩
  · unfold msgB msgH
    have e1 : decide (2 ≤ (mLn b t).length) = true := decide_eq_true (by unfold mLn; rw [List.length_append]; cases b <;> simp <;> omega)
    have e2 : (decide ((mLn b t).take 2 = [45, 62]) || decide ((mLn b t).take 2 = [60, 45])) = true := by cases b <;> rfl
    rw [e1, e2, em]
    simp only [Bool.true_and, List.all_eq_true, List.mem_map, List.mem_range]
    rintro x ⟨k, hk, rfl⟩
    have := h k (by omega)
    show ((t.getD k 0).toNat != 0) = true
    generalize t.getD k 0 = z at this
    simp only [bne_iff_ne]
    omega
  · rw [em]
    unfold nIs
    rw [List.map_map]
    refine List.ext_getElem (by simp [hj]) fun k hk1 hk2 => ?_
    have := h k hk2
    simp only [List.getElem_map, List.getElem_range, Function.comp]
    have e : t.getD k 0 = t[k] := by simp [hk2]
    rw [e] at this ⊢
    omega
/-! ### The lines of a text -/
/-- What stands between the name and the messages. -/
def knW (ki kr : Bool) : List (List UInt8) := (if ki then [[45, 62, 32, 115]] else []) ++ (if kr then [[60, 45, 32, 115]] else []) ++ (if ki || kr then [dotT] else [])
/-- The lines of a pattern's text, without blanks. -/
def lnP8 (p : Ptn) : List (List UInt8) := (p.name ++ [58]) :: (knW p.ki p.kr ++ (List.range p.n).map fun i => mLn (p.ini i) (p.tk i))
def rwL (p : Ptn) : List (List UInt8) := (p.name ++ [58]) :: ((knW p.ki p.kr).map (fun l => 32 :: 32 :: l) ++ (List.range p.n).map fun i => txD (p.ini i) ++ txR (p.tk i) (p.tk i).length)
theorem txS_rows (p : Ptn) : ∀ n, txS p n = ((List.range n).map fun i => txD (p.ini i) ++ txR (p.tk i) (p.tk i).length).flatMap fun l => l ++ [10]
  | 0 => rfl
  | n + 1 => by
    rw [List.range_succ, List.map_append, List.flatMap_append, ← txS_rows p n]
    simp [txS, txM]
theorem txT_rows (p : Ptn) (h : wrB p = true) : txT p = (rwL p).flatMap fun l => l ++ [10] := by
  unfold txT rwL
  rw [if_pos h, List.flatMap_cons, List.flatMap_append, ← txS_rows]
  unfold txA knW dotT
  cases p.ki <;> cases p.kr <;> simp
theorem name_facts {p : Ptn} (h : wrB p = true) : p.name ≠ [] ∧ p.name.length ≤ 32 ∧ ∀ x ∈ p.name, x ≠ 32 ∧ x ≠ 10 := by
  unfold wrB nmB at h
  simp only [Bool.and_eq_true, decide_eq_true_eq, List.all_eq_true] at h
  obtain ⟨⟨⟨⟨h1, h2⟩, h3⟩, -⟩, -⟩ := h.1
  refine ⟨fun e => by rw [e] at h1; simp at h1, h2, fun x hx => ?_⟩
  have := h3 x hx
  constructor
  · rintro rfl
    revert this
    decide
  · rintro rfl
    revert this
    decide
theorem tk_facts {p : Ptn} (h : wrB p = true) {i : Nat} (hi : i < p.n) : TkS (p.tk i) ∧ 1 ≤ (p.tk i).length := by
  have hs := PtS.of h
  refine ⟨hs.x i hi, ?_⟩
  have h2 : (p.ms.all fun m => wrM m.2) = true := by
    unfold wrB at h
    simp only [Bool.and_eq_true] at h
    exact h.2
  have hi2 : i < p.ms.length := hi
  have h3 := List.all_eq_true.1 h2 (p.ms[i]'hi2) (List.getElem_mem hi2)
  unfold wrM at h3
  simp only [Bool.and_eq_true, decide_eq_true_eq] at h3
  have e : p.tk i = (p.ms[i]'hi2).2 := by
    unfold Ptn.tk
    simp [hi2]
  rw [e]
  exact h3.1.1
theorem rows_mem {p : Ptn} (h : wrB p = true) : ∀ l ∈ rwL p, ∀ x ∈ l, x ≠ 10 := by
  intro l hl x hx
  unfold rwL at hl
  rcases List.mem_cons.1 hl with rfl | hl
  · rcases List.mem_append.1 hx with hx | hx
    · exact ((name_facts h).2.2 x hx).2
    · simp at hx
      rw [hx]
      decide
  · rcases List.mem_append.1 hl with hl | hl
    · have : ∀ a b : Bool, (((knW a b).map (fun l => 32 :: 32 :: l)).all fun l => l.all fun x => decide (x ≠ 10)) = true := by decide
      exact of_decide_eq_true (List.all_eq_true.1 (List.all_eq_true.1 (this p.ki p.kr) l hl) x hx)
    · obtain ⟨i, hi, rfl⟩ := List.mem_map.1 hl
      obtain ⟨h1, h2⟩ := tk_facts h (List.mem_range.1 hi)
      rcases List.mem_append.1 hx with hx | hx
      · have : ∀ b : Bool, ((txD b).all fun x => decide (x ≠ 10)) = true := by decide
        exact of_decide_eq_true (List.all_eq_true.1 (this (p.ini i)) x hx)
      · exact txR_mem h1 _ (Nat.le_refl _) x hx
theorem rows_trim {p : Ptn} (h : wrB p = true) : (rwL p).map tmT = lnP8 p := by
  obtain ⟨h1, -, h3⟩ := name_facts h
  have hp : 0 < p.name.length := List.length_pos_iff.2 h1
  unfold rwL lnP8
  rw [List.map_cons, List.map_append, List.map_map, List.map_map]
  have e1 : tmT (p.name ++ [58]) = p.name ++ [58] := by
    refine tmT_nb _ ?_ ?_
    · rw [List.getD_eq_getElem?_getD, List.getElem?_append_left hp, ← List.getD_eq_getElem?_getD]
      exact (h3 _ (getD_mem hp)).1
    · rw [last_app _ _ (by simp)]
      decide
  have e2 : (knW p.ki p.kr).map (tmT ∘ fun l => 32 :: 32 :: l) = knW p.ki p.kr := by
    have : ∀ a b : Bool, (knW a b).map (tmT ∘ fun l => 32 :: 32 :: l) = knW a b := by decide
    exact this _ _
  have e3 : (List.range p.n).map (tmT ∘ fun i => txD (p.ini i) ++ txR (p.tk i) (p.tk i).length) = (List.range p.n).map fun i => mLn (p.ini i) (p.tk i) := by
    refine List.map_congr_left fun i hi => ?_
    obtain ⟨a, b⟩ := tk_facts h (List.mem_range.1 hi)
    exact mLn_trim a b _
  rw [e1, e2, e3]
theorem lnP8_ne (p : Ptn) : ∀ l ∈ lnP8 p, l ≠ [] := by
  intro l hl
  unfold lnP8 at hl
  rcases List.mem_cons.1 hl with rfl | hl
  · simp
  · rcases List.mem_append.1 hl with hl | hl
    · have : ∀ a b : Bool, ((knW a b).all fun l => decide (l ≠ [])) = true := by decide
      exact of_decide_eq_true (List.all_eq_true.1 (this p.ki p.kr) l hl)
    · obtain ⟨i, -, rfl⟩ := List.mem_map.1 hl
      unfold mLn
      cases p.ini i <;> simp
theorem text_lines {p : Ptn} (h : wrB p = true) : lnS (txT p) = lnP8 p := by
  unfold lnS
  rw [txT_rows p h, splL_lines _ (rows_mem h), List.map_append, rows_trim h, List.filter_append]
  have e1 : (lnP8 p).filter (fun l => !l.isEmpty) = lnP8 p := by
    rw [List.filter_eq_self]
    intro l hl
    have := lnP8_ne p l hl
    cases l with
    | nil => exact absurd rfl this
    | cons x l => rfl
  rw [e1]
  have e2 : ([[]] : List (List UInt8)).map tmT = [[]] := rfl
  rw [e2]
  simp
end Go.Proofs.YtpoibhhijidobabGreatDoor

/- A pattern's text is read as the pattern, second part: plain mathematics. -/
namespace Go.Proofs.YtpoibhhijidobabGreatDoor
set_option linter.unusedSimpArgs false
set_option linter.unusedVariables false

theorem dtR_none (l : List (List UInt8)) : ∀ m, (∀ k, k < m → l.getD (l.length - 1 - k) [] ≠ dotT) → dtR l m = -1
  | 0, _ => rfl
  | m + 1, h => by
    rw [dtR_next l m _ rfl, if_neg (h m (by omega)), dtR_none l m (fun k hk => h k (by omega))]
theorem mLn_dots (b : Bool) (t : List Int) : mLn b t ≠ dotT := by
  intro h
  have h2 : (mLn b t).getD 0 0 = 46 := by rw [h]; rfl
  cases b
  · exact absurd (show (60 : UInt8) = 46 from h2) (by decide)
  · exact absurd (show (45 : UInt8) = 46 from h2) (by decide)
/-- The messages' lines. -/
def msLn (p : Ptn) : List (List UInt8) := (List.range p.n).map fun i => mLn (p.ini i) (p.tk i)
theorem msLn_len (p : Ptn) : (msLn p).length = p.n := by simp [msLn]
theorem msLn_get (p : Ptn) (i : Nat) (h : i < p.n) : (msLn p).getD i [] = mLn (p.ini i) (p.tk i) := by simp [msLn, h]
theorem getD_app (A B : List (List UInt8)) (i n : Nat) (hA : A.length = n) : (A ++ B).getD (n + i) [] = B.getD i [] := by
  subst hA
  rw [List.getD_eq_getElem?_getD, List.getElem?_append_right (by omega), Nat.add_sub_cancel_left, ← List.getD_eq_getElem?_getD]
/-- Where the dots stand. -/
def dtI (ki kr : Bool) : Int := if ki || kr then ((knW ki kr).length : Int) else -1
theorem lnP8_eq (p : Ptn) : lnP8 p = ((p.name ++ [58]) :: knW p.ki p.kr) ++ msLn p := rfl
theorem lnP8_len (p : Ptn) : (lnP8 p).length = (knW p.ki p.kr).length + 1 + p.n := by
  rw [lnP8_eq, List.length_append, msLn_len]
  rfl
theorem lnP8_msg (p : Ptn) (i : Nat) (h : i < p.n) : (lnP8 p).getD ((knW p.ki p.kr).length + 1 + i) [] = mLn (p.ini i) (p.tk i) := by
  have e := getD_app ((p.name ++ [58]) :: knW p.ki p.kr) (msLn p) i ((knW p.ki p.kr).length + 1) rfl
  rw [lnP8_eq, e, msLn_get p i h]
theorem dots_at (p : Ptn) : dtR (lnP8 p) ((lnP8 p).length - 1) = dtI p.ki p.kr := by
  have hl := lnP8_len p
  have hm := lnP8_msg p
  have e0 := lnP8_eq p
  generalize lnP8 p = L at hl hm e0
  rcases p with ⟨name, ki, kr, ms⟩
  obtain ⟨n, hn⟩ : ∃ n : Nat, n = Ptn.n ⟨name, ki, kr, ms⟩ := ⟨_, rfl⟩
  cases ki <;> cases kr
  · have hl2 : L.length = 1 + n := by rw [hl, hn]; show 0 + 1 + _ = _; omega
    refine dtR_none L _ fun k hk => ?_
    obtain ⟨i, hi⟩ : ∃ i, L.length - 1 - k = (knW false false).length + 1 + i := ⟨n - 1 - k, by show _ = 0 + 1 + _; omega⟩
    rw [hi, hm i (by have : (knW false false).length = 0 := rfl; omega)]
    exact mLn_dots _ _
  · have hl2 : L.length = n + 3 := by rw [hl, hn]; show 2 + 1 + _ = _; omega
    have g1 : L.getD 1 [] = [60, 45, 32, 115] := by rw [e0]; rfl
    have g2 : L.getD 2 [] = dotT := by rw [e0]; rfl
    rw [show L.length - 1 = n + 1 + 1 by omega, dtR_next L (n + 1) 1 (by omega), g1, if_neg (by decide), dtR_next L n 2 (by omega), if_pos g2]
    rfl
  · have hl2 : L.length = n + 3 := by rw [hl, hn]; show 2 + 1 + _ = _; omega
    have g1 : L.getD 1 [] = [45, 62, 32, 115] := by rw [e0]; rfl
    have g2 : L.getD 2 [] = dotT := by rw [e0]; rfl
    rw [show L.length - 1 = n + 1 + 1 by omega, dtR_next L (n + 1) 1 (by omega), g1, if_neg (by decide), dtR_next L n 2 (by omega), if_pos g2]
    rfl
  · have hl2 : L.length = n + 4 := by rw [hl, hn]; show 3 + 1 + _ = _; omega
    have g1 : L.getD 1 [] = [45, 62, 32, 115] := by rw [e0]; rfl
    have g2 : L.getD 2 [] = [60, 45, 32, 115] := by rw [e0]; rfl
    have g3 : L.getD 3 [] = dotT := by rw [e0]; rfl
    rw [show L.length - 1 = n + 2 + 1 by omega, dtR_next L (n + 2) 1 (by omega), g1, if_neg (by decide), dtR_next L (n + 1) 2 (by omega), g2, if_neg (by decide), dtR_next L n 3 (by omega), if_pos g3]
    rfl
theorem ln_facts : msgB [45, 62, 32, 115] = true ∧ nIs (msgL [45, 62, 32, 115]) = [2] ∧ msgB [60, 45, 32, 115] = true ∧ nIs (msgL [60, 45, 32, 115]) = [2] := by decide
theorem ln_i (d : Int) (i : Nat) (p : Ptn) (h : (i : Int) < d) (hi : p.ki = false) (hr : p.kr = false) : lnP d i [45, 62, 32, 115] p = some ⟨p.name, true, p.kr, p.ms⟩ := by
  obtain ⟨h1, h2, -, -⟩ := ln_facts
  unfold lnP stLn
  rw [h1, h2, if_neg (by omega), if_neg (by decide), if_neg (by omega), if_neg (by simp [hi, hr])]
  rfl
theorem ln_r (d : Int) (i : Nat) (p : Ptn) (h : (i : Int) < d) (hr : p.kr = false) : lnP d i [60, 45, 32, 115] p = some ⟨p.name, p.ki, true, p.ms⟩ := by
  obtain ⟨-, -, h1, h2⟩ := ln_facts
  unfold lnP stLn
  rw [h1, h2, if_neg (by omega), if_neg (by decide), if_neg (by omega), if_neg (by simp [hr])]
  rfl
theorem ln_d (i : Nat) (x : List UInt8) (p : Ptn) : lnP (i : Int) i x p = some p := by
  unfold lnP stLn
  rw [if_pos rfl]
theorem rn_next (d : Int) (l : List (List UInt8)) (p0 p : Ptn) (i : Nat) (h : rnP d l p0 i = some p) (x : List UInt8) (hx : l.getD (i + 1) [] = x) : rnP d l p0 (i + 1) = lnP d (i + 1) x p := rnP_step d l p0 p (i + 1) i rfl h x hx
theorem known_run (p : Ptn) : rnP (dtI p.ki p.kr) (lnP8 p) ⟨p.name, false, false, []⟩ (knW p.ki p.kr).length = some ⟨p.name, p.ki, p.kr, []⟩ := by
  have e0 := lnP8_eq p
  generalize lnP8 p = L at e0
  rcases p with ⟨name, ki, kr, ms⟩
  cases ki <;> cases kr
  · rfl
  · have g1 : L.getD 1 [] = [60, 45, 32, 115] := by rw [e0]; rfl
    have a1 : rnP 2 L ⟨name, false, false, []⟩ 1 = some ⟨name, false, true, []⟩ := (rn_next 2 L _ ⟨name, false, false, []⟩ 0 rfl _ g1).trans (ln_r 2 1 ⟨name, false, false, []⟩ (by decide) rfl)
    exact (rn_next 2 L _ _ 1 a1 _ rfl).trans (ln_d 2 _ _)
  · have g1 : L.getD 1 [] = [45, 62, 32, 115] := by rw [e0]; rfl
    have a1 : rnP 2 L ⟨name, false, false, []⟩ 1 = some ⟨name, true, false, []⟩ := (rn_next 2 L _ ⟨name, false, false, []⟩ 0 rfl _ g1).trans (ln_i 2 1 ⟨name, false, false, []⟩ (by decide) rfl rfl)
    exact (rn_next 2 L _ _ 1 a1 _ rfl).trans (ln_d 2 _ _)
  · have g1 : L.getD 1 [] = [45, 62, 32, 115] := by rw [e0]; rfl
    have g2 : L.getD 2 [] = [60, 45, 32, 115] := by rw [e0]; rfl
    have a1 : rnP 3 L ⟨name, false, false, []⟩ 1 = some ⟨name, true, false, []⟩ := (rn_next 3 L _ ⟨name, false, false, []⟩ 0 rfl _ g1).trans (ln_i 3 1 ⟨name, false, false, []⟩ (by decide) rfl rfl)
    have a2 : rnP 3 L ⟨name, false, false, []⟩ 2 = some ⟨name, true, true, []⟩ := (rn_next 3 L _ ⟨name, true, false, []⟩ 1 a1 _ g2).trans (ln_r 3 2 ⟨name, true, false, []⟩ (by decide) rfl)
    exact (rn_next 3 L _ _ 2 a2 _ rfl).trans (ln_d 3 _ _)
theorem dtI_le (ki kr : Bool) : dtI ki kr ≤ ((knW ki kr).length : Int) := by
  revert ki kr
  decide
theorem dtI_one (ki kr : Bool) : dtI ki kr ≠ 1 := by
  revert ki kr
  decide
theorem msgs_run {p : Ptn} (h : wrB p = true) : ∀ k, k ≤ p.n → rnP (dtI p.ki p.kr) (lnP8 p) ⟨p.name, false, false, []⟩ ((knW p.ki p.kr).length + k) = some ⟨p.name, p.ki, p.kr, p.ms.take k⟩
  | 0, _ => known_run p
  | k + 1, hk => by
    have ih := msgs_run h k (by omega)
    have hx : (lnP8 p).getD ((knW p.ki p.kr).length + k + 1) [] = mLn (p.ini k) (p.tk k) := by
      rw [show (knW p.ki p.kr).length + k + 1 = (knW p.ki p.kr).length + 1 + k by omega]
      exact lnP8_msg p k (by omega)
    obtain ⟨h1, h2⟩ := tk_facts h (i := k) (by omega)
    obtain ⟨m1, m2, m3⟩ := mLn_msg h1 h2 (p.ini k)
    have hd := dtI_le p.ki p.kr
    have hk2 : k < p.ms.length := hk
    have e := rn_next _ _ _ _ _ ih _ hx
    rw [show (knW p.ki p.kr).length + (k + 1) = (knW p.ki p.kr).length + k + 1 by omega, e]
    unfold lnP stLn
    rw [m1, m2, m3, if_neg (by omega), if_neg (by decide), if_pos (by omega)]
    have e3 : (p.ini k, p.tk k) = p.ms[k] := by simp [Ptn.ini, Ptn.tk, hk2]
    rw [List.take_add_one, List.getElem?_eq_getElem hk2, e3]
    rfl
theorem name_trim {p : Ptn} (h : wrB p = true) : tmT p.name = p.name := by
  obtain ⟨h1, -, h3⟩ := name_facts h
  have hp : 0 < p.name.length := List.length_pos_iff.2 h1
  exact tmT_nb _ (h3 _ (getD_mem hp)).1 (h3 _ (getD_mem (by omega))).1
theorem text_len {p : Ptn} (h : wrB p = true) : (txT p).length ≤ 700 := by
  have hs := PtS.of h
  have h1 := txA_len (p := p) (name_facts h).2.1
  have h2 := txS_len hs p.n (Nat.le_refl _)
  have h3 := hs.n
  unfold txT
  rw [if_pos h, List.length_append]
  omega
/-- A pattern's text is read as the pattern. -/
theorem text_back {p : Ptn} (h : wrB p = true) : psA (txT p) = (p, 0) := by
  obtain ⟨h1, -, -⟩ := name_facts h
  have hl := text_len h
  have e0 : (lnP8 p).getD 0 [] = p.name ++ [58] := rfl
  have e1 : (p.name ++ [58]).length - 1 = p.name.length := by simp
  have e2 : (p.name ++ [58]).getD p.name.length 0 = 58 := by simp
  have e3 : (p.name ++ [58]).take p.name.length = p.name := by simp
  have e4 : (lnP8 p).length - 1 = (knW p.ki p.kr).length + p.n := by rw [lnP8_len]; omega
  unfold psA
  rw [text_lines h, if_neg (by omega), if_neg (by
    rw [e0, e1, e2]
    intro hh
    rcases hh with hh | hh
    · rw [lnP8_eq] at hh
      cases hh
    · exact hh rfl), dots_at, if_neg (dtI_one _ _), e0, e1, e3, name_trim h, e4, msgs_run h p.n (Nat.le_refl _)]
  have e5 : p.ms.take p.n = p.ms := List.take_of_length_le (Nat.le_refl _)
  rw [e5]
  show (if wrB p = true then (p, 0) else (zeP, 20)) = (p, 0)
  rw [if_pos h]
/-- What is read may be written; what is refused is nothing. -/
theorem psA_wr (s : List UInt8) : ((psA s).2 = 0 ∧ wrB (psA s).1 = true) ∨ ((psA s).2 ≠ 0 ∧ (psA s).1 = zeP) := by
  unfold psA
  split
  · exact .inr ⟨by decide, rfl⟩
  · split
    · exact .inr ⟨by decide, rfl⟩
    · split
      · exact .inr ⟨by decide, rfl⟩
      · generalize rnP _ _ _ _ = r
        cases r with
        | none => exact .inr ⟨by decide, rfl⟩
        | some p =>
          unfold psE
          simp only
          split
          · exact .inl ⟨rfl, by assumption⟩
          · exact .inr ⟨by decide, rfl⟩
theorem zeP_text : txT zeP = [] := by decide
end Go.Proofs.YtpoibhhijidobabGreatDoor

/- What stays hidden, and patterns that are cut or turned round: plain mathematics. No program's text is named. -/
namespace Go.Proofs.YtpoibhhijidobabGreatDoor
set_option linter.unusedSimpArgs false
set_option linter.unusedVariables false

/-! ### What stays hidden -/
theorem drB_hides {p : Ptn} (h : hyB p = true) : drB p true false [] = false ∧ drB p false true [] = false ∧ drB p false false [] = false := by
  unfold hyB at h
  simp only [Bool.and_eq_true, List.any_eq_true, decide_eq_true_eq] at h
  obtain ⟨⟨e1, m1, l1⟩, e2, m2, l2⟩ := h
  have key : ∀ (c k : Bool) (e : Int × List (Bool × Int)), e ∈ secL p → drE c k [] e = false → drB p c k [] = false := fun c k e he hf => by
    unfold drB
    have : (secL p).all (drE c k []) = false := by
      rw [List.all_eq_false]
      exact ⟨e, he, by rw [hf]; simp⟩
    rw [this, Bool.and_false]
  refine ⟨key _ _ e2 m2 ?_, key _ _ e1 m1 ?_, key _ _ e1 m1 ?_⟩
  · unfold drE
    rw [decide_eq_false (by omega : ¬ e2.1 < 7)]
    simp
  · unfold drE
    rw [decide_eq_false (by omega : ¬ (8 : Int) < e1.1)]
    simp
  · unfold drE
    simp
theorem drB_more {p : Ptn} {c k c' k' : Bool} {ks ks' : List (Bool × Int)} (h : drB p c k ks = true) (hc : c = true → c' = true) (hk : k = true → k' = true) (hs : ∀ q ∈ ks, q ∈ ks') : drB p c' k' ks' = true := by
  unfold drB at h ⊢
  simp only [Bool.and_eq_true, List.all_eq_true] at h ⊢
  refine ⟨h.1, fun e he => ?_⟩
  have h2 := h.2 e he
  unfold drE at h2 ⊢
  simp only [Bool.or_eq_true, Bool.and_eq_true, decide_eq_true_eq, List.any_eq_true] at h2 ⊢
  rcases h2 with (⟨a, b⟩ | ⟨a, b⟩) | ⟨x, hx, q, hq, e⟩
  · exact .inl (.inl ⟨hc a, b⟩)
  · exact .inl (.inr ⟨hk a, b⟩)
  · exact .inr ⟨x, hx, q, hs q hq, e⟩

/-! ### Cut behind a message -/
def cuP15 (p : Ptn) (k : Nat) : Ptn := ⟨p.name, p.ki, p.kr, p.ms.take k⟩
theorem cu_ini (p : Ptn) {k i : Nat} (h : i < k) : (cuP15 p k).ini i = p.ini i := by
  unfold Ptn.ini cuP15
  simp [List.getElem?_take, h]
theorem cu_tk (p : Ptn) {k i : Nat} (h : i < k) : (cuP15 p k).tk i = p.tk i := by
  unfold Ptn.tk cuP15
  simp [List.getElem?_take, h]
theorem cu_n (p : Ptn) {k : Nat} (h : k ≤ p.n) : (cuP15 p k).n = k := by
  unfold Ptn.n at h ⊢
  unfold cuP15
  simp
  omega
theorem cu_saR (p : Ptn) {k i : Nat} (h : i < k) (b : Bool) (t : Int) (j : Nat) : saR (cuP15 p k) b t i j = saR p b t i j := by
  unfold saR
  rw [cu_ini p h, cu_tk p h]
theorem cu_saS (p : Ptn) (k : Nat) (b : Bool) (t : Int) : ∀ i, i ≤ k → saS (cuP15 p k) b t i = saS p b t i
  | 0, _ => rfl
  | i + 1, h => by
    unfold saS
    rw [cu_saS p k b t i (by omega), cu_saR p (by omega), cu_tk p (by omega)]
theorem cu_saN (p : Ptn) {k m : Nat} (h : m < k) (b : Bool) (t : Int) (j : Nat) : saN (cuP15 p k) b t m j = saN p b t m j := by
  unfold saN
  rw [cu_saS p k b t m (by omega), cu_saR p h, cu_tk p h]
theorem cu_hsB (p : Ptn) {k m : Nat} (h : m < k) (b : Bool) (t : Int) (j : Nat) : hsB (cuP15 p k) b t m j = hsB p b t m j := by
  unfold hsB
  rw [cu_saN p h]
  rfl
theorem cu_myB (p : Ptn) {k m : Nat} (h : m < k) (j : Nat) : myB (cuP15 p k) m j = myB p m j := by
  unfold myB
  simp only [cu_ini p h, cu_tk p h, cu_saN p h, cu_hsB p h]
theorem cu_ckM (p : Ptn) {k m : Nat} (h : m < k) : ckM (cuP15 p k) m = ckM p m := by
  unfold ckM
  simp only [cu_ini p h, cu_tk p h, cu_myB p h]
theorem cu_wrB (p : Ptn) {k : Nat} (h1 : 1 ≤ k) (hk : k ≤ p.n) (h : wrB p = true) : wrB (cuP15 p k) = true := by
  unfold wrB at h ⊢
  simp only [Bool.and_eq_true, decide_eq_true_eq, List.all_eq_true] at h ⊢
  rw [cu_n p hk]
  exact ⟨⟨⟨h.1.1.1, h1⟩, by omega⟩, fun m hm => h.2 m (List.mem_of_mem_take hm)⟩
theorem cu_ckB (p : Ptn) {k : Nat} (hk : k ≤ p.n) (h : ckQ p = true) : ckQ (cuP15 p k) = true := by
  unfold ckQ at h ⊢
  rw [List.all_eq_true] at h ⊢
  rw [cu_n p hk]
  intro m hm
  rw [cu_ckM p (List.mem_range.1 hm)]
  exact h m (List.mem_range.2 (Nat.lt_of_lt_of_le (List.mem_range.1 hm) hk))

/-! ### Turned round -/
def tuP (p : Ptn) : Ptn := ⟨p.name, p.ki, p.kr, p.ms.map fun m => (!m.1, m.2)⟩
theorem tu_wrB (p : Ptn) (h : wrB p = true) : wrB (tuP p) = true := by
  unfold wrB at h ⊢
  simp only [Bool.and_eq_true, decide_eq_true_eq, List.all_eq_true] at h ⊢
  have e : (tuP p).n = p.n := by unfold Ptn.n tuP; simp
  rw [e]
  refine ⟨⟨⟨h.1.1.1, h.1.1.2⟩, h.1.2⟩, fun m hm => ?_⟩
  obtain ⟨x, hx, rfl⟩ := List.mem_map.1 hm
  exact h.2 x hx
theorem tu_ckM (p : Ptn) (hn : 1 ≤ p.n) (h : ckM p 0 = true) : ckM (tuP p) 0 = false := by
  unfold ckM at h ⊢
  simp only [Bool.and_eq_true, decide_eq_true_eq] at h
  have e : (tuP p).ini 0 = !p.ini 0 := by
    unfold Ptn.n at hn
    unfold Ptn.ini tuP
    have : 0 < p.ms.length := by omega
    simp [this]
  rw [e, h.1]
  rfl
theorem tu_ckB (p : Ptn) (hn : 1 ≤ p.n) (h : ckQ p = true) : ckQ (tuP p) = false := by
  unfold ckQ at h ⊢
  rw [List.all_eq_true] at h
  rw [List.all_eq_false]
  have e : (tuP p).n = p.n := by unfold Ptn.n tuP; simp
  refine ⟨0, List.mem_range.2 (by omega), ?_⟩
  rw [tu_ckM p hn (h 0 (List.mem_range.2 (by omega)))]
  simp
end Go.Proofs.YtpoibhhijidobabGreatDoor

/- Which token may come: contracts of the reference of layer 15, eighth part. -/
namespace Go.Proofs.YtpoibhhijidobabGreatDoor
open Go.ChangeShapes Go.WideShapes Go.ChangeAt Go.RowKit
set_option linter.unusedSimpArgs false
set_option linter.unusedVariables false

end Go.Proofs.YtpoibhhijidobabGreatDoor

/- Which patterns keep the rules: contracts of the reference of layer 15, ninth part. -/
namespace Go.Proofs.YtpoibhhijidobabGreatDoor
open Go.ChangeShapes Go.WideShapes Go.ChangeAt Go.RowKit
set_option linter.unusedSimpArgs false
set_option linter.unusedVariables false

/-- What is told of a pattern. -/
def ckP (p : Ptn) : Int := if wrB p then (if ckQ p then 0 else 21) else 1
theorem ck_false {p : Ptn} (hw : wrB p = true) {m : Nat} (hm : m < p.n) (h : ckM p m = false) : ckP p = 21 := by
  have : ckQ p = false := by
    unfold ckQ
    rw [List.all_eq_false]
    exact ⟨m, List.mem_range.2 hm, by rw [h]; simp⟩
  unfold ckP
  rw [hw, this]
  rfl
theorem ck_true {p : Ptn} (hw : wrB p = true) (h : ∀ m, m < p.n → ckM p m = true) : ckP p = 0 := by
  have : ckQ p = true := by
    unfold ckQ
    rw [List.all_eq_true]
    exact fun m hm => h m (List.mem_range.1 hm)
  unfold ckP
  rw [hw, this]
  rfl
theorem ckM_who {p : Ptn} {m : Nat} (h : p.ini m ≠ decide (m % 2 = 0)) : ckM p m = false := by
  unfold ckM
  rw [decide_eq_false h]
  rfl
theorem ckM_bad {p : Ptn} {m k : Nat} (hk : k < (p.tk m).length) (h : myB p m k = false) : ckM p m = false := by
  have : ((List.range (p.tk m).length).all fun k => myB p m k) = false := by
    rw [List.all_eq_false]
    exact ⟨k, List.mem_range.2 hk, by rw [h]; simp⟩
  unfold ckM
  rw [this, Bool.and_false]
theorem ckM_good {p : Ptn} {m : Nat} (h1 : p.ini m = decide (m % 2 = 0)) (h : ∀ k, k < (p.tk m).length → myB p m k = true) : ckM p m = true := by
  have : ((List.range (p.tk m).length).all fun k => myB p m k) = true := by
    rw [List.all_eq_true]
    exact fun k hk => h k (List.mem_range.1 hk)
  unfold ckM
  rw [this, decide_eq_true h1]
  rfl

end Go.Proofs.YtpoibhhijidobabGreatDoor

/- The patterns that are given: they are read, may be, and have secrets of both kinds: reckoned. -/
namespace Go.Proofs.YtpoibhhijidobabGreatDoor
set_option linter.unusedSimpArgs false
set_option linter.unusedVariables false

/-- The patterns that are given. -/
def gvP : List Ptn := [
  ⟨gvN0, false, true, [(true, [10, 1, 8, 4, 2, 6]), (false, [9, 10, 1, 3, 5])]⟩,
  ⟨gvN1, true, true, [(true, [10, 1, 8, 4, 6]), (false, [9, 10, 1, 3, 5])]⟩,
  ⟨gvN2, false, true, [(true, [10, 1, 8, 4]), (false, [9, 1, 3])]⟩,
  ⟨gvN3, false, false, [(true, [1, 8]), (false, [9, 1, 3])]⟩,
  ⟨gvN4, false, false, [(true, [1, 8]), (false, [9, 1, 3, 7])]⟩,
  ⟨gvN5, false, false, [(true, [1, 8]), (false, [9, 1, 3, 2, 4]), (true, [10, 2, 5]), (false, [10])]⟩]
theorem gv_all : (gvP.all fun p => wrB p && ckQ p && hyB p) = true ∧ gvP.map txT = [gvT0, gvT1, gvT2, gvT3, gvT4, gvT5] ∧ gvP.map (·.name) = [gvN0, gvN1, gvN2, gvN3, gvN4, gvN5] := by
  refine ⟨by decide +kernel, by decide +kernel, by decide +kernel⟩
/-- A given pattern: its text, that it is read as the pattern, may be, and has secrets of both kinds. -/
theorem gv_at (i : Nat) (h : i < 6) : ∃ p, gvP[i]? = some p ∧ wrB p = true ∧ ckP p = 0 ∧ hyB p = true ∧ [gvT0, gvT1, gvT2, gvT3, gvT4, gvT5][i]? = some (txT p) ∧ [gvN0, gvN1, gvN2, gvN3, gvN4, gvN5][i]? = some p.name ∧ psA (txT p) = (p, 0) := by
  obtain ⟨h1, h2, h3⟩ := gv_all
  have hl : i < gvP.length := h
  have hp := List.all_eq_true.1 h1 gvP[i] (List.getElem_mem hl)
  simp only [Bool.and_eq_true] at hp
  refine ⟨gvP[i], List.getElem?_eq_getElem hl, hp.1.1, ?_, hp.2, ?_, ?_, text_back hp.1.1⟩
  · unfold ckP
    rw [if_pos hp.1.1, if_pos hp.1.2]
  · rw [← h2, List.getElem?_map, List.getElem?_eq_getElem hl]
    rfl
  · rw [← h3, List.getElem?_map, List.getElem?_eq_getElem hl]
    rfl
/-- A pattern of one message that breaks a rule. -/
def exP : Ptn := ⟨[88], false, false, [(true, [3])]⟩
def exT : List UInt8 := [88, 58, 10, 45, 62, 32, 101, 101]
def exL : List (List UInt8) := [[88, 58], [45, 62, 32, 101, 101]]
theorem ex_lines : lnS exT = exL := by decide +kernel
theorem ex_read : psA exT = (exP, 0) := by
  unfold psA
  rw [ex_lines, if_neg (by decide), if_neg (by decide)]
  have e1 : dtR exL (exL.length - 1) = -1 := by decide +kernel
  rw [e1, if_neg (by decide)]
  rfl
theorem ex_facts : wrB exP = true ∧ ckQ exP = false ∧ hyB exP = false ∧ (secL exP).length = 1 := by
  refine ⟨by decide +kernel, by decide +kernel, by decide +kernel, by decide +kernel⟩
theorem ex_check : ckP exP = 21 := by
  obtain ⟨h1, h2, -, -⟩ := ex_facts
  unfold ckP
  rw [if_pos h1, if_neg (by rw [h2]; decide)]
end Go.Proofs.YtpoibhhijidobabGreatDoor
