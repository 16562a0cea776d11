/- An entry's own methods: contracts of package frag, eleventh part. -/
import Derived.Test.YtkljklfejaojaaaFg19j
import Derived.Test.YtkljklfejaojaaaShelf
import Derived.Test.YtkljklfejaojaaaFgMath3
namespace Go.Proofs.Ytkljklfejaojaaa
open Go.ChangeShapes Go.WideShapes Go.ChangeAt Go.RowKit
set_option linter.unusedSimpArgs false
set_option linter.unusedVariables false

theorem str_size19 (l : List UInt8) : (⟨l.toArray⟩ : ByteArray).size = l.length := by simp [ByteArray.size]
set_option maxHeartbeats 1000000 in
theorem clone19_any (s : List UInt8) (hs : s.length ≤ 1000000) (w : World) :
    Calls Try.prog 51 #[.string ⟨s.toArray⟩] w fun e w' => e = .returned (.string ⟨s.toArray⟩) ∧ Below w.heap.size w w' := by
  have HC : Hid (Calls Try.prog 57 #[.string ⟨s.toArray⟩] w fun e w' => e = .returned (.string ⟨s.toArray⟩) ∧ Below w.heap.size w w') := Try.stringslite_Clone ⟨s.toArray⟩ w (by rw [str_size19]; omega)
  generalize (⟨s.toArray⟩ : ByteArray) = S at HC ⊢
  go_enter Try.func51, Try.ntmps51
  go_wp2_with fail
  refine HC.out.mono ?_
  rintro e w1 ⟨rfl, b1⟩
  go_wp2
  go_ret
  exact ⟨rfl, b1⟩
/-- A row whose block is full is a whole block. -/
theorem own_blk {w : World} {base g n : Nat} {e : TypeId} {xs : List Value} (h : w.ownsRow base e 1 (.slice (some ⟨g, 0, none⟩) n n) n xs) : BlkAt g e xs w := by
  rcases h.2 with ⟨h', _⟩ | ⟨g', cap', cur, h', hb, hg, hnc, hcm, hcs, ht⟩
  · simp at h'
  · simp only [Value.slice.injEq, Option.some.injEq, Addr.mk.injEq, and_true, true_and] at h'
    obtain ⟨rfl, rfl⟩ := h'
    unfold BlkAt
    rw [hg, ← ht, List.take_of_length_le (by rw [Array.length_toList, hcs]; omega)]
theorem infoSl19 : ∃ i, Try.prog.info? 22 = some i ∧ i.zero = some (.slice none 0 0) ∧ i.size = 1 ∧ i.bytes = 24 := by
  have h : (Try.prog.info? 22).map (fun i => (i.zero, i.size, i.bytes)) = some (some (.slice none 0 0), 1, 24) := by kernel_rfl
  cases hi : Try.prog.info? 22 with
  | none => rw [hi] at h; cases h
  | some i =>
    rw [hi] at h
    simp only [Option.map_some, Option.some.injEq, Prod.mk.injEq] at h
    exact ⟨i, rfl, h.1, h.2.1, h.2.2⟩
/-- Empty pieces are made. -/
theorem wp_make_pieces {w : World} {o : Oper} {a : Act} {K : Act → World → Prop} {Q : Exit → Act → World → Prop} (l c : Operand) (ho : o.op = .makeSlice 24 l c) (n : Nat) (hl : a.eval l = .int .i64 (n : Int)) (hc : a.eval c = .int .i64 (n : Int)) (hn : n ≤ 1000000)
    (h : ∀ b w', w.heap.size ≤ b → BlkAt b 22 (List.replicate n (.slice none 0 0)) w' → Below w.heap.size w w' → K (a.put o.dst (.slice (some ⟨b, 0, none⟩) n n)) w') : o.wp Try.prog a w K Q := by
  obtain ⟨i, hi, hz0, hz1, hz2⟩ := infoSl19
  obtain ⟨w', hrun, r1, r2⟩ := run_make_full (P := Try.prog) w w.heap.size 24 22 i _ 1 Try.underlying24 hi hz0 hz1 .i64 .i64 n (by rw [hz2]; omega) (by unfold maxLen; omega) (Nat.le_refl _)
  unfold Oper.wp
  simp [execOp, ho, hl, hc, hrun, Result.andThen]
  rw [Nat.mul_one] at r1
  have e1 : (madeCells (Value.slice none 0 0).cells n).toList = List.replicate n (.slice none 0 0) := by
    refine List.ext_getElem (by simp [madeCells]) fun i h1 h2 => ?_
    simp [madeCells, Value.cells, Nat.mod_one]
  rw [e1] at r1
  exact h _ w' (Nat.le_refl _) (own_blk r1) ((Below.refl w.heap.size w).grown r2 (Nat.le_refl _) (fun k hk => by cases hk))
/-- An entry is laid. -/
theorem wp_box_entry {w : World} {o : Oper} {a : Act} {K : Act → World → Prop} {Q : Exit → Act → World → Prop} (x : Operand) (ho : o.op = .box 68 x) (cs : List Value) (hx : a.eval x = .agg cs.toArray)
    (h : ∀ g w', w.heap.size ≤ g → BlkAt g 68 cs w' → Below w.heap.size w w' → K (a.put o.dst (.pointer (some ⟨g, 0, none⟩))) w') : o.wp Try.prog a w K Q := by
  unfold Oper.wp execOp
  simp only [ho, hx, Sem.run_bind, run_boxB, Result.andThen_ok, Sem.run_pure]
  exact h _ _ (Nat.le_refl _) (BlkAt.fresh rfl rfl) (growB _)
theorem build_e19 (p : List UInt8) (m : Int) (now n b : Nat) (w : World) : (Instr.build 68 #[(0, .string ⟨p.toArray⟩), (1, .int .i64 m), (2, .int .u64 (now : Int)), (3, .slice (some ⟨b, 0, none⟩) n n)]).run Try.prog w = .ok (.agg #[.string ⟨p.toArray⟩, .int .i64 m, .int .u64 (now : Int), .slice (some ⟨b, 0, none⟩) n n, .int .i64 0]) w := by kernel_rfl
set_option maxRecDepth 100000 in
set_option maxHeartbeats 4000000 in
theorem begin_any (p : List UInt8) (hp : p.length ≤ 1000000) (m : Int) (n : Nat) (hn : n ≤ 1000000) (now : Nat) (w : World) :
    Calls Try.prog 34 #[.string ⟨p.toArray⟩, .int .i64 m, .int .i64 (n : Int), .int .u64 (now : Int)] w fun e w' => ∃ g b, e = .returned (pV g) ∧ w.heap.size ≤ g ∧ w.heap.size ≤ b ∧ BlkAt g 68 (enK ⟨p, m, now, List.replicate n []⟩ b) w' ∧ BlkAt b 22 (List.replicate n (.slice none 0 0)) w' ∧ Below w.heap.size w w' := by
  have HP : Hid (p.length ≤ 1000000) := hp
  have HN : Hid (n ≤ 1000000) := hn
  have HE : Hid (∀ b, enK ⟨p, m, now, List.replicate n []⟩ b = [.string ⟨p.toArray⟩, .int .i64 m, .int .u64 (now : Int), .slice (some ⟨b, 0, none⟩) n n, .int .i64 0]) := by
    show ∀ b, _
    intro b
    simp [enK, szE]
  clear hp hn
  go_enter Try.func34, Try.ntmps34
  go_wp2_with fail
  have hB : Below w.heap.size w w.drew := (Below.refl _ _).drew
  refine wpB_begin (Below.refl w.heap.size w) (by kernel_rfl) ?_
  refine bU_ hB 0 rfl ⟨_, by intro W hW; go_simp <;> with_reducible rfl, ?_⟩
  try simp only [Act.put, pA_, pB_, pC_]
  refine bU_ hB 2 rfl ⟨_, by intro W hW; go_simp <;> with_reducible rfl, ?_⟩
  try simp only [Act.put, pA_, pB_, pC_]
  refine bU_ hB 3 rfl ⟨_, by intro W hW; go_simp <;> with_reducible rfl, ?_⟩
  try simp only [Act.put, pA_, pB_, pC_]
  refine bU_ hB 4 rfl ⟨_, by intro W hW; go_simp <;> with_reducible rfl, ?_⟩
  try simp only [Act.put, pA_, pB_, pC_]
  refine bF_ 1 5 (fun K hK => ?_) (fun K hK => ?_)
  · go_simp
    refine (clone19_any p HP.out _).mono ?_
    rintro e ws ⟨rfl, bs⟩
    replace hB := stepB hB bs
    try replace hM := BlkAt.kept hM bs
    refine hK.out _ _ hB ?_
    clear hK K
    try simp only [Act.put, pA_, pB_, pC_]
    refine bD_ 5 fun K hK => ?_
    refine wp_make_pieces _ _ rfl n (by rfl) (by rfl) HN.out ?_
    intro b wm hge hM bM
    have HGe : Hid (w.heap.size ≤ b) := Nat.le_trans hB.size hge
    replace hB := stepB hB bM
    refine hK.out _ _ hB ?_
    clear hK K
    try simp only [Act.put, pA_, pB_, pC_]
    refine bU_ hB 6 rfl ⟨_, by intro W hW; have hbu := build_e19 p m now n b W; go_simp <;> with_reducible rfl, ?_⟩
    try simp only [Act.put, pA_, pB_, pC_]
    refine bD_ 7 fun K hK => ?_
    refine wp_box_entry _ rfl [.string ⟨p.toArray⟩, .int .i64 m, .int .u64 (now : Int), .slice (some ⟨b, 0, none⟩) n n, .int .i64 0] (by rfl) ?_
    intro g wx hgx hX bX
    have HGx : Hid (w.heap.size ≤ g) := Nat.le_trans hB.size hgx
    replace hM := BlkAt.kept hM bX
    replace hB := stepB hB bX
    refine hK.out _ _ hB ?_
    clear hK K
    try simp only [Act.put, pA_, pB_, pC_]
    refine bU_ hB 8 rfl ⟨_, by intro W hW; go_simp <;> with_reducible rfl, ?_⟩
    try simp only [Act.put, pA_, pB_, pC_]
    refine wpB_done (by kernel_rfl) ?_
    go_wp2
    go_ret
    exact ⟨g, b, rfl, HGx.out, HGe.out, by rw [HE.out]; exact hX, hM, hB⟩
  · refine wp_make_pieces _ _ rfl n (by rfl) (by rfl) HN.out ?_
    intro b wm hge hM bM
    have HGe : Hid (w.heap.size ≤ b) := Nat.le_trans hB.size hge
    replace hB := stepB hB bM
    refine hK.out _ _ hB ?_
    clear hK K
    try simp only [Act.put, pA_, pB_, pC_]
    refine bD_ 1 fun K hK => ?_
    go_simp
    refine (clone19_any p HP.out _).mono ?_
    rintro e ws ⟨rfl, bs⟩
    replace hB := stepB hB bs
    try replace hM := BlkAt.kept hM bs
    refine hK.out _ _ hB ?_
    clear hK K
    try simp only [Act.put, pA_, pB_, pC_]
    refine bU_ hB 6 rfl ⟨_, by intro W hW; have hbu := build_e19 p m now n b W; go_simp <;> with_reducible rfl, ?_⟩
    try simp only [Act.put, pA_, pB_, pC_]
    refine bD_ 7 fun K hK => ?_
    refine wp_box_entry _ rfl [.string ⟨p.toArray⟩, .int .i64 m, .int .u64 (now : Int), .slice (some ⟨b, 0, none⟩) n n, .int .i64 0] (by rfl) ?_
    intro g wx hgx hX bX
    have HGx : Hid (w.heap.size ≤ g) := Nat.le_trans hB.size hgx
    replace hM := BlkAt.kept hM bX
    replace hB := stepB hB bX
    refine hK.out _ _ hB ?_
    clear hK K
    try simp only [Act.put, pA_, pB_, pC_]
    refine bU_ hB 8 rfl ⟨_, by intro W hW; go_simp <;> with_reducible rfl, ?_⟩
    try simp only [Act.put, pA_, pB_, pC_]
    refine wpB_done (by kernel_rfl) ?_
    go_wp2
    go_ret
    exact ⟨g, b, rfl, HGx.out, HGe.out, by rw [HE.out]; exact hX, hM, hB⟩

/-- Has a part come? -/
def hasB (e : Ent) (i : Nat) : Bool := decide (0 < (e.parts.getD i []).length)
theorem EyP.at {K : Nat → Prop} {w : World} {x : Ey} {vs : List Value} (h : EyP K w x vs) {i : Nat} (hi : i < x.e.parts.length) : ∃ a c, w.cell? ⟨x.b, i, none⟩ = some (.slice a (x.e.parts.getD i []).length c) ∧ Rd w (.slice a (x.e.parts.getD i []).length c) (x.e.parts.getD i []) := by
  have hiv : i < vs.length := by rw [h.len]; exact hi
  have hv : vs[i]? = some vs[i] := List.getElem?_eq_getElem hiv
  have hp := Rd.of_row (h.pcs i _ hv).1
  obtain ⟨a, c, e, h1, h2, h3, h4⟩ := id hp
  refine ⟨a, c, ?_, by rw [← e]; exact hp⟩
  rw [h.row.cell, hv, e]
set_option maxRecDepth 100000 in
set_option maxHeartbeats 4000000 in
theorem has_any (K : Nat → Prop) (x : Ey) (vs : List Value) (i : Nat) (w : World) (h : EyP K w x vs) (hi : i < x.e.parts.length) :
    Calls Try.prog 32 #[pV x.g, .int .i64 (i : Int)] w fun e w' => e = .returned (.bool (hasB x.e i)) ∧ w' = w := by
  obtain ⟨a, c, h1, -⟩ := h.at hi
  have c3 : w.cell? ⟨x.g, 3, none⟩ = some (.slice (some ⟨x.b, 0, none⟩) x.e.parts.length x.e.parts.length) := h.blk.cell 3
  have HB : Hid (hasB x.e i = decide (0 < (x.e.parts.getD i []).length)) := rfl
  obtain ⟨r, hr⟩ : ∃ r, r = hasB x.e i := ⟨_, rfl⟩
  rw [← hr] at HB ⊢
  generalize (x.e.parts.getD i []).length = L at h1 HB
  generalize x.e.parts.length = n at c3 hi
  generalize x.g = g at c3 ⊢
  generalize x.b = b at c3 h1
  have hiI : (i : Int) < (n : Int) := by omega
  have HB2 : Hid (decide ((0 : Int) < (L : Int)) = r) := by
    show _ = _
    rw [HB.out]
    exact decide_eq_decide.2 (by omega)
  clear h hr HB
  go_enter Try.func32, Try.ntmps32
  go_wp2
  go_ret
  exact ⟨by rw [← HB2.out]; simp, rfl⟩
/-- Does a piece fit? -/
def fitB (e : Ent) (i n : Nat) (body : List UInt8) : Bool := decide (e.parts.length = n) && (!hasB e i || decide (e.parts.getD i [] = body))
set_option maxRecDepth 100000 in
set_option maxHeartbeats 4000000 in
theorem fits_any (K : Nat → Prop) (x : Ey) (vs : List Value) (i n : Nat) (body : List UInt8) (vb : Value) (w : World) (h : EyP K w x vs) (hi : i < n) (hb : Rd w vb body) :
    Calls Try.prog 31 #[pV x.g, .int .i64 (i : Int), .int .i64 (n : Int), vb] w fun e w' => e = .returned (.bool (fitB x.e i n body)) ∧ Below w.heap.size w w' := by
  have c3 : w.cell? ⟨x.g, 3, none⟩ = some (.slice (some ⟨x.b, 0, none⟩) x.e.parts.length x.e.parts.length) := h.blk.cell 3
  obtain ⟨r, hr⟩ : ∃ r, r = fitB x.e i n body := ⟨_, rfl⟩
  have HR : Hid (r = fitB x.e i n body) := hr
  rw [← hr]
  clear hr
  by_cases hn : x.e.parts.length = n
  · have hi2 : i < x.e.parts.length := by omega
    have HH := has_any K x vs i w h hi2
    obtain ⟨a, c, h1, hR1⟩ := h.at hi2
    obtain ⟨q, hq⟩ : ∃ q, q = hasB x.e i := ⟨_, rfl⟩
    rw [← hq] at HH
    have HHas : Hid (Calls Try.prog 32 #[pV x.g, .int .i64 (i : Int)] w fun e w' => e = .returned (.bool q) ∧ w' = w) := HH
    have HEq : Hid (Calls Try.prog 48 #[.slice a (x.e.parts.getD i []).length c, vb] w fun e w' => e = .returned (.bool (decide (x.e.parts.getD i [] = body))) ∧ Below w.heap.size w w') := equal_any _ _ _ _ w hR1 hb
    have HR2 : Hid (r = (!q || decide (x.e.parts.getD i [] = body))) := by
      show _ = _
      rw [HR.out, hq]
      unfold fitB
      rw [decide_eq_true hn, Bool.true_and]
    rw [hn] at c3
    obtain ⟨av, cv, rfl, -, -, -, -⟩ := id hb
    generalize decide (x.e.parts.getD i [] = body) = d at HEq HR2
    generalize (x.e.parts.getD i []).length = L at h1 HEq
    generalize body.length = M at HEq ⊢
    generalize x.g = g at c3 HHas ⊢
    generalize x.b = b at c3 h1
    have hiI : (i : Int) < (n : Int) := by omega
    clear h hb hq HR hR1 hn HH hi2
    cases q with
    | true =>
      have HR3 : Hid (r = d) := by show _ = _; rw [HR2.out]; rfl
      clear HR2
      go_enter Try.func31, Try.ntmps31
      go_wp2_with fail
      refine Calls.mono HHas.out ?_
      rintro e w2 ⟨rfl, rfl⟩
      go_wp2_with fail
      refine Calls.mono HEq.out ?_
      rintro e w3 ⟨rfl, b3⟩
      go_wp2
      go_ret
      exact ⟨by rw [HR3.out]; rfl, b3⟩
    | false =>
      have HR3 : Hid (r = true) := by show _ = _; rw [HR2.out]; rfl
      clear HR2
      go_enter Try.func31, Try.ntmps31
      go_wp2_with fail
      refine Calls.mono HHas.out ?_
      rintro e w2 ⟨rfl, rfl⟩
      go_wp2
      go_ret
      exact ⟨by rw [HR3.out]; rfl, Below.refl _ _⟩
  · have HR2 : Hid (r = false) := by
      show _ = _
      rw [HR.out]
      unfold fitB
      rw [decide_eq_false hn, Bool.false_and]
    obtain ⟨av, cv, rfl, -, -, -, -⟩ := id hb
    generalize body.length = M at ⊢
    generalize x.e.parts.length = k at c3 hn
    generalize x.g = g at c3 ⊢
    generalize x.b = b at c3
    have hb1 : (((k : Nat) : Int) == ((n : Nat) : Int)) = false := beq_eq_false_iff_ne.2 (by omega)
    have hb2 : ¬ ((k : Nat) : Int) = ((n : Nat) : Int) := by omega
    clear h hb HR
    go_enter Try.func31, Try.ntmps31
    go_wp2
    go_ret
    exact ⟨by rw [HR2.out]; rfl, Below.refl _ _⟩
set_option maxRecDepth 100000 in
set_option maxHeartbeats 4000000 in
theorem whole_any (K : Nat → Prop) (x : Ey) (vs : List Value) (w : World) (h : EyP K w x vs) (hl : x.e.parts.length ≤ 1000000) :
    Calls Try.prog 36 #[pV x.g] w fun e w' => e = .returned (.bool (fuB x.e.parts)) ∧ w' = w := by
  have c3 : w.cell? ⟨x.g, 3, none⟩ = some (.slice (some ⟨x.b, 0, none⟩) x.e.parts.length x.e.parts.length) := h.blk.cell 3
  have HHas : Hid (∀ i, i < x.e.parts.length → Calls Try.prog 32 #[pV x.g, .int .i64 (i : Int)] w fun e w' => e = .returned (.bool (hasB x.e i)) ∧ w' = w) := fun i hi => has_any K x vs i w h hi
  have HNo : Hid (∀ i, i < x.e.parts.length → hasB x.e i = false → fuB x.e.parts = false) := by
    show ∀ i, _
    intro i hi hb
    unfold hasB at hb
    unfold fuB
    rw [List.all_eq_false]
    refine ⟨x.e.parts[i], List.getElem_mem hi, ?_⟩
    have := of_decide_eq_false hb
    simp only [List.getD_eq_getElem?_getD, List.getElem?_eq_getElem hi, Option.getD_some] at this
    simp [List.eq_nil_of_length_eq_zero (by omega : (x.e.parts[i]).length = 0)]
  have HYes : Hid ((∀ i, i < x.e.parts.length → hasB x.e i = true) → fuB x.e.parts = true) := by
    show _ → _
    intro hb
    unfold fuB
    rw [List.all_eq_true]
    intro y hy
    obtain ⟨i, hi, rfl⟩ := List.getElem_of_mem hy
    have := of_decide_eq_true (hb i hi)
    simp only [List.getD_eq_getElem?_getD, List.getElem?_eq_getElem hi, Option.getD_some] at this
    cases hx : x.e.parts[i] with
    | nil => rw [hx] at this; simp at this
    | cons _ _ => rfl
  obtain ⟨n, hn⟩ : ∃ n, n = x.e.parts.length := ⟨_, rfl⟩
  rw [← hn] at c3 HHas HNo HYes hl
  generalize fuB x.e.parts = r at HNo HYes ⊢
  generalize x.g = g at c3 HHas ⊢
  generalize x.b = b at c3
  generalize hasB x.e = hf at HHas HNo HYes
  clear h hn
  go_enter Try.func36, Try.ntmps36
  go_wp2
  go_loop [9] (fun iv => ∃ i : Nat, i ≤ n ∧ iv = .int .i64 (i : Int) ∧ Hid (∀ k, k < i → hf k = true)) (fun iv => n - (intOf iv).toNat)
  case atStart => exact ⟨0, by omega, rfl, (by intro k hk; omega : ∀ k, k < 0 → hf k = true)⟩
  case round =>
    obtain ⟨i, hi, rfl, HX⟩ := hrel
    by_cases hlt : i < n
    · have hd : decide ((i : Int) < (n : Int)) = true := decide_eq_true (by omega)
      have hiI : (i : Int) < (n : Int) := by omega
      have HC : Hid _ := HHas.out i hlt
      have HN1 : Hid (hf i = false → r = false) := HNo.out i hlt
      have HX1 : Hid (hf i = true → ∀ k, k < i + 1 → hf k = true) := by
        show _ → ∀ k, _
        intro h k hk
        rcases Nat.lt_or_ge k i with h2 | h2
        · exact HX.out k h2
        · rw [show k = i by omega]; exact h
      generalize hf i = q at HC HN1 HX1
      cases q with
      | false =>
        have HF : Hid (r = false) := HN1.out rfl
        clear HN1 HX1
        go_wp2_with fail
        refine Calls.mono HC.out ?_
        rintro e w2 ⟨rfl, rfl⟩
        go_wp2
        go_ret
        exact ⟨by rw [HF.out]; rfl, rfl⟩
      | true =>
        have HX2 : Hid _ := HX1.out rfl
        clear HN1 HX1
        go_wp2_with fail
        refine Calls.mono HC.out ?_
        rintro e w2 ⟨rfl, rfl⟩
        go_wp2
        go_round
        case rel => exact ⟨i + 1, by omega, by go_num, HX2⟩
        case measure => simp [intOf] <;> omega
    · have hd : decide ((i : Int) < (n : Int)) = false := decide_eq_false (by omega)
      have HF : Hid (r = true) := HYes.out fun k hk => HX.out k (by omega)
      go_wp2
      go_ret
      exact ⟨by rw [HF.out]; rfl, rfl⟩
/-- A piece is put in. -/
theorem EyP.put {K : Nat → Prop} {w w1 w2 : World} {x : Ey} {vs : List Value} {i : Nat} {v : Value} {body : List UInt8} (h : EyP K w x vs) (hi : i < x.e.parts.length) (h0 : x.e.parts.getD i [] = [])
    (hv : w.ownsRow 0 5 1 v body.length (body.map bv)) (hvk : ∀ g, v.ownBlock = some g → K g)
    (h1 : w1 = w.setCell ⟨x.b, i, none⟩ v) (h2 : w2 = w1.setCell ⟨x.g, 4, none⟩ (.int .i64 ((szE (inE x.e i body) : Nat) : Int))) : EyP K w2 ⟨x.g, x.b, inE x.e i body⟩ (vs.set i v) := by
  have hne := blk_ne h.blk h.row (by decide)
  have c1 : Chg (fun b => b = x.b) w w1 := by rw [h1]; exact Chg.of_wrote (Wrote.set x.b i w v)
  have r1 : BlkAt x.b 22 (vs.set i v) w1 := by rw [h1]; exact h.row.set i v
  have g1 : BlkAt x.g 68 (enK x.e x.b) w1 := h.blk.chg c1 hne
  have c2 : Chg (fun b => b = x.g) w1 w2 := by rw [h2]; exact Chg.of_wrote (Wrote.set x.g 4 w1 _)
  have r2 : BlkAt x.b 22 (vs.set i v) w2 := r1.chg c2 (Ne.symm hne)
  have g2 : BlkAt x.g 68 ((enK x.e x.b).set 4 (.int .i64 ((szE (inE x.e i body) : Nat) : Int))) w2 := by rw [h2]; exact g1.set 4 _
  have hp : ∀ v' p, PcP K w v' p → PcP K w2 v' p := fun v' p hp => (hp.past h.row (by decide) c1).past g1 (by decide) c2
  refine ⟨?_, h.kg, h.kb, r2, by simp [h.len, inE], fun j u hu => ?_⟩
  · have e1 : (enK x.e x.b).set 4 (.int .i64 ((szE (inE x.e i body) : Nat) : Int)) = enK (inE x.e i body) x.b := by simp [enK, inE]
    rw [← e1]
    exact g2
  · by_cases hj : j = i
    · subst hj
      have hjl : j < vs.length := by rw [h.len]; exact hi
      rw [List.getElem?_set_self hjl] at hu
      obtain rfl := Option.some.inj hu
      have e2 : (inE x.e j body).parts.getD j [] = body := by simp [inE, hi]
      show PcP K w2 _ ((inE x.e j body).parts.getD j [])
      rw [e2]
      exact hp _ _ ⟨hv, hvk⟩
    · rw [List.getElem?_set_ne (fun e => hj e.symm)] at hu
      have e2 : (inE x.e i body).parts.getD j [] = x.e.parts.getD j [] := by
        simp only [inE, List.getD_eq_getElem?_getD]
        rw [List.getElem?_set_ne (fun e => hj e.symm)]
      show PcP K w2 _ ((inE x.e i body).parts.getD j [])
      rw [e2]
      exact hp _ _ (h.pcs j u hu)
theorem szE_put {e : Ent} {i : Nat} {body : List UInt8} (hi : i < e.parts.length) (h0 : e.parts.getD i [] = []) : szE (inE e i body) = szE e + body.length := sum_put _ _ _ hi h0
theorem RdL.one19 {w : World} {e : TypeId} {v1 : Value} {l1 : List UInt8} {b : Nat} (hb : b = w.heap.size) (h1 : Rd w v1 l1) : RdL (w.alloc (.cells #[v1] e)) (.slice (some ⟨b, 0, none⟩) 1 1) [v1] [l1] := by
  subst hb
  refine RdL.lit [v1] [l1] rfl rfl rfl (by unfold maxLen; simp) rfl fun i hi => ?_
  match i, hi with
  | 0, _ => exact h1
set_option maxRecDepth 100000 in
set_option maxHeartbeats 4000000 in
theorem put_any (Kb : Nat → Prop) (x : Ey) (vs : List Value) (i : Nat) (body : List UInt8) (vb : Value) (w : World) (hK : ∀ k, w.heap.size ≤ k → Kb k) (h : EyP Kb w x vs) (hi : i < x.e.parts.length) (h0 : x.e.parts.getD i [] = []) (hb : Rd w vb body) (hbl : body.length ≤ 1000000) (hsz : szE x.e ≤ 1000000) :
    Calls Try.prog 35 #[pV x.g, .int .i64 (i : Int), vb] w fun e w' => e = .returned (.tuple #[]) ∧ (∃ vs', EyP Kb w' ⟨x.g, x.b, inE x.e i body⟩ vs') ∧ Cp (fun k => k = x.g ∨ k = x.b) w w' := by
  have c3 : w.cell? ⟨x.g, 3, none⟩ = some (.slice (some ⟨x.b, 0, none⟩) x.e.parts.length x.e.parts.length) := h.blk.cell 3
  obtain ⟨av, cv, rfl, -, -, -, -⟩ := id hb
  have HRb : Hid (Rd w (.slice av body.length cv) body) := hb
  have HX : Hid (EyP Kb w x vs) := h
  have HK : Hid (∀ k, w.heap.size ≤ k → Kb k) := hK
  have HI : Hid (i < x.e.parts.length) := hi
  have H0 : Hid (x.e.parts.getD i [] = []) := h0
  have HSz : Hid (szE (inE x.e i body) = szE x.e + body.length) := szE_put hi h0
  have HTl : Hid (totL [body] ≤ 1000000000) := by show _ ≤ _; simp [totL]; omega
  have HL : Hid (body.length ≤ 1000000 ∧ szE x.e ≤ 1000000) := ⟨hbl, hsz⟩
  obtain ⟨M, hM⟩ : ∃ M, M = body.length := ⟨_, rfl⟩
  have HM : Hid (M = body.length) := hM
  obtain ⟨n, hn⟩ : ∃ n, n = x.e.parts.length := ⟨_, rfl⟩
  have HN : Hid (n = x.e.parts.length) := hn
  rw [← hn] at c3 hi
  rw [← hM] at HRb ⊢
  obtain ⟨g, hg⟩ : ∃ n, n = x.g := ⟨_, rfl⟩
  obtain ⟨b, hbb⟩ : ∃ n, n = x.b := ⟨_, rfl⟩
  have HG : Hid (g = x.g) := hg
  have HBb : Hid (b = x.b) := hbb
  rw [← hg, ← hbb] at c3
  rw [← hg]
  have hiI : (i : Int) < (n : Int) := by omega
  clear h hK h0 hbl hsz hM hn hg hbb hb
  go_enter Try.func35, Try.ntmps35
  go_wp2_with fail
  have hB : Below w.heap.size w w.drew := (Below.refl _ _).drew
  refine wpF_begin 9 (w0 := w) (by kernel_rfl) ?_
  refine fP_ (.inr hB) 0 rfl ⟨_, by intro W; go_simp <;> with_reducible rfl, ?_⟩
  try simp only [Act.put, pA_, pB_, pC_]
  refine fP_ (.inr hB) 1 rfl ⟨_, by intro W; go_simp <;> with_reducible rfl, ?_⟩
  try simp only [Act.put, pA_, pB_, pC_]
  refine fP_ (.inr hB) 2 rfl ⟨_, by intro W; go_simp <;> with_reducible rfl, ?_⟩
  try simp only [Act.put, pA_, pB_, pC_]
  refine fU_ hB 3 rfl ⟨_, by intro W hW; have hcW := cellF c3 hW; go_simp <;> with_reducible rfl, ?_⟩
  try simp only [Act.put, pA_, pB_, pC_]
  refine fP_ (.inr hB) 4 rfl ⟨_, by intro W; go_simp <;> with_reducible rfl, ?_⟩
  try simp only [Act.put, pA_, pB_, pC_]
  refine fP_ (.inr hB) 5 rfl ⟨_, by intro W; go_simp <;> with_reducible rfl, ?_⟩
  try simp only [Act.put, pA_, pB_, pC_]
  refine fD_ 6 fun K hK => ?_
  go_simp
  have hL := (RdL.one19 (w := w) (e := 22) (b := w.heap.size) (v1 := .slice av M cv) (l1 := body) rfl HRb.out).kept (Below.refl _ _).drew
  replace hB := stepB hB (growB (.cells #[.slice av M cv] 22))
  refine hK.out _ _ (.inr hB) ?_
  clear hK K
  try simp only [Act.put, pA_, pB_, pC_]
  refine fD_ 7 fun K hK => ?_
  go_simp
  refine (join_any _ _ _ _ hL HTl.out).mono ?_
  rintro e w2 ⟨v, rfl, hN⟩
  have HNw : Hid (w2.ownsRow w.heap.size 5 1 v body.length (body.map bv)) := by have h1 := own_mono hN.1 hB.size; show w2.ownsRow _ _ _ _ _ _; simpa using h1
  replace hB := stepB hB hN.2
  clear hN hL
  obtain ⟨a2, c2, rfl, -, -, -, -⟩ := Rd.of_row HNw.out
  have HB2 : Hid (Below w.heap.size w w2) := hB
  have HX2 : Hid (EyP Kb w2 x vs) := HX.out.kept hB
  have hcu : ∃ u, w2.cell? ⟨b, i, none⟩ = some u := by rw [HBb.out, HX2.out.row.cell]; exact ⟨vs[i]'(by rw [HX2.out.len]; exact HI.out), List.getElem?_eq_getElem _⟩
  obtain ⟨u, hcu⟩ := hcu
  have hfu : w2.frozen? ⟨b, i, none⟩ = false := by rw [HBb.out]; exact HX2.out.row.free i
  refine hK.out _ _ (.inr hB) ?_
  clear hK K
  try simp only [Act.put, pA_, pB_, pC_]
  refine fP_ (.inr hB) 8 rfl ⟨_, by intro W; go_simp <;> with_reducible rfl, ?_⟩
  try simp only [Act.put, pA_, pB_, pC_]
  refine fD_ 9 fun K hK => ?_
  go_simp
  refine hK.out _ _ (.inl rfl) ?_
  clear hK K
  try simp only [Act.put, pA_, pB_, pC_]
  refine wpF_done (by kernel_rfl) ?_
  have HNe : Hid (g ≠ b) := by show g ≠ b; rw [HG.out, HBb.out]; exact blk_ne HX2.out.blk HX2.out.row (by decide)
  obtain ⟨w3, hw3⟩ : ∃ w3, w3 = w2.setCell ⟨b, i, none⟩ (.slice a2 body.length c2) := ⟨_, rfl⟩
  have HW3 : Hid (w3 = w2.setCell ⟨b, i, none⟩ (.slice a2 body.length c2)) := hw3
  have hg3 : BlkAt g 68 (enK x.e x.b) w3 := by
    rw [hw3]
    have := HX2.out.blk
    rw [← HG.out] at this
    exact this.chg (Chg.of_wrote (Wrote.set b i w2 _)) HNe.out
  rw [← hw3]
  obtain ⟨Z, hZ⟩ : ∃ Z, Z = szE x.e := ⟨_, rfl⟩
  have c4 : w3.cell? ⟨g, 4, none⟩ = some (.int .i64 (Z : Int)) := by rw [hZ]; exact hg3.cell 4
  have f4 := hg3.free 4
  have HG3 : Hid (BlkAt g 68 (enK x.e x.b) w3) := hg3
  obtain ⟨S2, hS2⟩ : ∃ S2, S2 = szE (inE x.e i body) := ⟨_, rfl⟩
  have hsum : IntKind.i64.wrap ((Z : Int) + (M : Int)) = (S2 : Int) := by
    have h1 := HL.out
    have h2 := HM.out
    have h3 := HSz.out
    rw [IntWalk.i64_in _ (by omega)]
    omega
  have HS2 : Hid (S2 = szE (inE x.e i body)) := hS2
  clear hw3 hg3 hZ hS2 c3 hcu hfu hB hi hiI
  go_wp2
  go_end0
  have hput := HX2.out.put (v := .slice a2 body.length c2) (body := body) (w1 := w3) (w2 := w3.setCell ⟨x.g, 4, none⟩ (.int .i64 ((szE (inE x.e i body) : Nat) : Int))) HI.out H0.out (own_monoG HNw.out (Nat.zero_le _)) (fun k hk => HK.out k (HNw.out.lt k hk).1) (by rw [← HBb.out]; exact HW3.out) rfl
  rw [← HG.out, ← HS2.out] at hput
  refine ⟨rfl, ⟨_, hput⟩, ?_⟩
  refine (Cp.of_below HB2.out).trans (Cp.trans (b := w3) ?_ ?_)
  · rw [HW3.out]
    have hr := HX2.out.row
    rw [← HBb.out] at hr
    refine (Cp.set hr (.inr (.inr rfl)) fun v hv => .inr ⟨?_, fun o' s ho hs => ?_⟩).mono fun k _ hk => .inr (hk.trans HBb.out)
    · obtain ⟨a4, c4, e4, -⟩ := Rd.of_row (HX2.out.pcs i v hv).1
      exact ⟨_, _, _, e4⟩
    · obtain ⟨a4, c4, e4, -⟩ := Rd.of_row (HX2.out.pcs o' _ hs).1
      cases e4
  · refine (Cp.set HG3.out (.inr (.inl rfl)) fun v hv => .inl ⟨⟨_, (Option.some.inj hv).symm⟩, fun o' s ho hs => ?_⟩).mono fun k _ hk => .inl (hk.trans rfl)
    obtain rfl : o' = 3 := by omega
    simp [enK] at hs
end Go.Proofs.Ytkljklfejaojaaa
