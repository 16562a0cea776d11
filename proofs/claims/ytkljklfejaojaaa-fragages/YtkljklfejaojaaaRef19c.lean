/- Entries that go: contracts of the reference of layer 19, third part. -/
import Derived.Test.YtkljklfejaojaaaRef19b
import Derived.Test.YtkljklfejaojaaaRowF
namespace Go.Proofs.Ytkljklfejaojaaa
open Go.ChangeShapes Go.WideShapes Go.ChangeAt Go.RowKit
set_option linter.unusedSimpArgs false
set_option linter.unusedVariables false

theorem enC_one : ∀ {l : List Ent} {vs : List Value}, (∀ v ∈ vs, v.oneCell' = true) → ∀ u ∈ enC l vs, u.oneCell' = true
  | [], _, _, u, hu => by simp [enC] at hu
  | _ :: _, [], _, u, hu => by simp [enC] at hu
  | e :: l, v :: vs, h, u, hu => by
    simp only [enC, List.mem_append, enD, List.mem_cons, List.not_mem_nil, or_false] at hu
    rcases hu with (rfl | rfl | rfl | rfl) | hu
    · rfl
    · rfl
    · rfl
    · exact h _ (List.mem_cons_self ..)
    · exact enC_one (fun v hv => h v (List.mem_cons_of_mem _ hv)) u hu
theorem enC_take : ∀ {l : List Ent} {vs : List Value} (k : Nat), vs.length = l.length → (enC l vs).take (k * 4) = enC (l.take k) (vs.take k)
  | _, _, 0, _ => by simp [enC]
  | [], [], k + 1, _ => by simp [enC]
  | e :: l, v :: vs, k + 1, h => by
    simp only [enC, List.take_succ_cons]
    rw [← enC_take k (by simpa using h), show (k + 1) * 4 = (enD e v).length + k * 4 by simp [enD]; omega, List.take_length_add_append]
theorem enC_drop : ∀ {l : List Ent} {vs : List Value} (k : Nat), vs.length = l.length → (enC l vs).drop (k * 4) = enC (l.drop k) (vs.drop k)
  | _, _, 0, _ => by simp
  | [], [], k + 1, _ => by simp [enC]
  | e :: l, v :: vs, k + 1, h => by
    simp only [enC, List.drop_succ_cons]
    rw [← enC_drop k (by simpa using h), show (k + 1) * 4 = (enD e v).length + k * 4 by simp [enD]; omega, List.drop_length_add_append]
theorem RdC.one {w : World} {v : Value} {xs : List Value} (h : RdC w v xs) : v.oneCell' = true := by
  obtain ⟨a, c, rfl, -⟩ := h.form
  rfl
/-- Entries in a slice, the slices of their parts named. -/
structure EnV (w : World) (v : Value) (l : List Ent) (vs : List Value) : Prop where
  len : vs.length = l.length
  row : RdE w v 4 l.length (enC l vs)
def PaV (w : World) (l : List Ent) (vs : List Value) : Prop := ∀ k, k < l.length → RdC w (vs.getD k undef) ((l.getD k noE).parts.map sv)
theorem EnR.of {w : World} {v : Value} {l : List Ent} {vs : List Value} (h : EnV w v l vs) (hp : PaV w l vs) : EnR w v l := ⟨vs, h.len, h.row, hp⟩
theorem EnR.to {w : World} {v : Value} {l : List Ent} (h : EnR w v l) : ∃ vs, EnV w v l vs ∧ PaV w l vs := by
  obtain ⟨vs, h1, h2, h3⟩ := h.form
  exact ⟨vs, ⟨h1, h2⟩, h3⟩
theorem PaV.kept {w w' : World} {l : List Ent} {vs : List Value} (h : PaV w l vs) (hb : Below w.heap.size w w') : PaV w' l vs := fun k hk => (h k hk).kept hb
theorem PaV.one {w : World} {l : List Ent} {vs : List Value} (h : PaV w l vs) (hl : vs.length = l.length) : ∀ v ∈ vs, v.oneCell' = true := by
  intro v hv
  obtain ⟨k, hk, rfl⟩ := List.getElem_of_mem hv
  have := (h k (by omega)).one
  simpa [hk] using this
theorem PaV.append {w : World} {l l2 : List Ent} {vs vs2 : List Value} (h : PaV w l vs) (h2 : PaV w l2 vs2) (hl : vs.length = l.length) : PaV w (l ++ l2) (vs ++ vs2) := by
  intro k hk
  rcases Nat.lt_or_ge k l.length with h3 | h3
  · have e1 : (vs ++ vs2).getD k undef = vs.getD k undef := by simp [List.getElem?_append_left (show k < vs.length by omega)]
    have e2 : (l ++ l2).getD k noE = l.getD k noE := by simp [List.getElem?_append_left h3]
    rw [e1, e2]
    exact h k h3
  · have e1 : (vs ++ vs2).getD k undef = vs2.getD (k - l.length) undef := by simp [List.getElem?_append_right (show vs.length ≤ k by omega), hl]
    have e2 : (l ++ l2).getD k noE = l2.getD (k - l.length) noE := by simp [List.getElem?_append_right h3]
    rw [e1, e2]
    rw [List.length_append] at hk
    exact h2 _ (by omega)
theorem PaV.take {w : World} {l : List Ent} {vs : List Value} (h : PaV w l vs) (k : Nat) : PaV w (l.take k) (vs.take k) := by
  intro i hi
  rw [List.length_take] at hi
  have e1 : (vs.take k).getD i undef = vs.getD i undef := by simp [List.getElem?_take, show i < k by omega]
  have e2 : (l.take k).getD i noE = l.getD i noE := by simp [List.getElem?_take, show i < k by omega]
  rw [e1, e2]
  exact h i (by omega)
theorem PaV.drop {w : World} {l : List Ent} {vs : List Value} (h : PaV w l vs) (k : Nat) : PaV w (l.drop k) (vs.drop k) := by
  intro i hi
  rw [List.length_drop] at hi
  have e1 : (vs.drop k).getD i undef = vs.getD (k + i) undef := by simp
  have e2 : (l.drop k).getD i noE = l.getD (k + i) noE := by simp
  rw [e1, e2]
  exact h _ (by omega)
/-- One's own row of entries (made since w0) whose parts are older still (at wp). -/
structure OwE (wp w0 : World) (v : Value) (l : List Ent) (vs : List Value) (w : World) : Prop where
  len : vs.length = l.length
  own : OwnG w0 [⟨71, 4, v, l.length, enC l vs⟩] w
  parts : PaV wp l vs
  old : Below wp.heap.size wp w0
theorem OwE.rd {wp w0 w : World} {v : Value} {l : List Ent} {vs : List Value} (h : OwE wp w0 v l vs w) : EnR w v l := EnR.of ⟨h.len, RdE.of_own (h.own.rows _ (List.mem_cons_self ..))⟩ ((h.parts.kept h.old).kept h.own.below)
theorem OwE.start {wp w : World} (h : Below wp.heap.size wp w) : OwE wp w (.slice none 0 0) [] [] w := ⟨rfl, (OwnG.start w).nil _ 4, (fun k hk => by simp at hk), h⟩
theorem OwE.kept {wp w0 w w' : World} {v : Value} {l : List Ent} {vs : List Value} (h : OwE wp w0 v l vs w) (hb : Below w.heap.size w w') : OwE wp w0 v l vs w' := ⟨h.len, h.own.kept hb, h.parts, h.old⟩
/-- What an entry's kind is, as append asks it. -/
theorem info_en : ∃ i z, Try.prog.info? 71 = some i ∧ i.zero = some z ∧ i.size = 4 ∧ i.bytes = 56 ∧ z.cells.size = 4 := ⟨_, _, rfl, rfl, rfl, rfl, rfl⟩
theorem wpList_append_ens {wp w0 wr : World} {ops : Array Oper} {rest : List Oper} {o : Oper} {a : Act} {Q : Exit → Act → World → Prop} (hg : o.guard = none) (s x : Operand)
    (ho : o.op = .call { callee := .builtin .append, args := #[s, x], argTypes := #[38, 38] }) (v : Value) (l : List Ent) (vs : List Value) (hs : a.eval s = v) (hO : OwE wp w0 v l vs wr)
    (vx : Value) (l2 : List Ent) (vs2 : List Value) (hx : a.eval x = vx) (hR : EnV wr vx l2 vs2) (hP : PaV wp l2 vs2) (hn : l.length + l2.length ≤ 2000)
    (h : ∀ v' w', OwE wp w0 v' (l ++ l2) (vs ++ vs2) w' → wpList Try.prog ops Q rest (a.put o.dst v') w') : wpList Try.prog ops Q (o :: rest) a wr := by
  obtain ⟨i, z, h1, h2, h3, h4, h5⟩ := info_en
  refine wpList_append_R hg s x 38 ho 71 i z 4 56 Try.underlying38 h1 h2 h3 h4 h5 (by decide) v l.length (enC l vs) hs hO.own vx l2.length (enC l2 vs2) hx hR.row (enC_one (hP.one hR.len)) (by unfold maxLen; omega) (by omega) ?_
  intro v' w' hO' _
  refine h v' w' ⟨by simp [hO.len, hR.len], ?_, hO.parts.append hP hO.len, hO.old⟩
  rw [enC_append hO.len, List.length_append]
  exact hO'
theorem EnV.take {w : World} {a : Option Addr} {m c : Nat} {l : List Ent} {vs : List Value} (h : EnV w (.slice a m c) l vs) {k : Nat} (hk : k ≤ l.length) : EnV w (.slice a k c) (l.take k) (vs.take k) := by
  refine ⟨by simp [h.len], ?_⟩
  have := h.row.take hk
  rw [enC_take k h.len] at this
  rw [List.length_take, Nat.min_eq_left hk]
  exact this
theorem EnV.drop {w : World} {b off m c : Nat} {l : List Ent} {vs : List Value} (h : EnV w (.slice (some ⟨b, off, none⟩) m c) l vs) {k : Nat} (hk : k ≤ l.length) : EnV w (.slice (if c = k then some ⟨b, off, none⟩ else some ⟨b, off + k * 4, none⟩) (l.length - k) (c - k)) (l.drop k) (vs.drop k) := by
  refine ⟨by simp [h.len], ?_⟩
  have := h.row.drop hk
  rw [enC_drop k h.len] at this
  rw [List.length_drop]
  exact this
theorem EnV.kept {w w' : World} {v : Value} {l : List Ent} {vs : List Value} (h : EnV w v l vs) (hb : Below w.heap.size w w') : EnV w' v l vs := ⟨h.len, h.row.kept hb⟩
theorem alloc_bf (w : World) : (Instr.alloc 40 true (.tuple #[])).run Try.prog w = .ok (.pointer (some ⟨w.heap.size, 0, none⟩)) (w.alloc (.cells #[.int .i64 0, .int .i64 0, .int .u64 0, .slice none 0 0] 40)) := by kernel_rfl
theorem bfD_one (B : Bf) (a : Option Addr) (n c : Nat) : (bfD B (.slice a n c)).toArray.all (·.oneCell') = true := by kernel_rfl
def zbD : List Value := [.int .i64 0, .int .i64 0, .int .u64 0, .slice none 0 0]

set_option maxRecDepth 100000 in
set_option maxHeartbeats 4000000 in
theorem without19_any (B : Bf) (i : Nat) (hi : i < B.l.length) (hl : B.l.length ≤ 1000) (A : Array Value) (v : Value) (hA : A = (bfD B v).toArray) (w : World) (hr : EnR w v B.l) :
    Calls Try.prog 41 #[.agg A, .int .i64 (i : Int)] w fun r w' => ∃ v', r = .returned (.agg (bfD ⟨B.pm, B.am, B.age, B.l.eraseIdx i⟩ v').toArray) ∧ EnR w' v' (B.l.eraseIdx i) ∧ Below w.heap.size w w' := by
  subst hA
  obtain ⟨vs, hV, hP⟩ := hr.to
  obtain ⟨a, c, rfl, h2, h3⟩ := hr.len
  obtain ⟨b, off, -, -, rfl, -⟩ := hr.at hi
  unfold maxLen at h3
  obtain ⟨l, hll⟩ : ∃ l, l = B.l := ⟨_, rfl⟩
  rw [← hll] at hi hl h2 hV hP ⊢
  have HE : Hid (l.eraseIdx i = l.take i ++ l.drop (i + 1)) := by show _ = _; rw [List.eraseIdx_eq_take_drop_succ]
  obtain ⟨n, hn⟩ : ∃ n : Nat, n = l.length := ⟨_, rfl⟩
  rw [← hn] at hi hl h2 hV ⊢
  have HN : Hid (n = l.length) := hn
  have HV : Hid (EnV w (.slice (some ⟨b, off, none⟩) n c) l vs) := hV
  have HP : Hid (PaV w l vs) := hP
  clear hr hV hP hn hll
  go_enter Try.func41, Try.ntmps41
  go_wp2_with (refine wpList_box_blk rfl 40 _ rfl (bfD B (.slice (some ⟨b, off, none⟩) n c)) (by rfl) ?_)
  intro w1 r1 b1 s1
  obtain ⟨g1, hg1⟩ : ∃ g : Nat, g = w.heap.size := ⟨_, rfl⟩
  rw [← hg1] at r1 ⊢
  have HG1 : Hid (w.heap.size ≤ g1 ∧ g1 < w1.heap.size) := ⟨by omega, r1.lt⟩
  have HB1 : Hid (Below w.heap.size w w1) := b1
  clear b1 s1 hg1
  go_wp2_with (refine wpList_alloc_blk rfl 40 rfl zbD (alloc_bf _) ?_)
  intro w2 r2 b2 s2
  obtain ⟨g2, hg2⟩ : ∃ g : Nat, g = w1.heap.size := ⟨_, rfl⟩
  rw [← hg2] at r2 ⊢
  have HG2 : Hid (w.heap.size ≤ g1 ∧ w.heap.size ≤ g2 ∧ g1 < g2 ∧ g2 < w2.heap.size) := ⟨HG1.out.1, by have := HB1.out.size; omega, by have := HG1.out.2; omega, r2.lt⟩
  replace r1 := r1.kept b2
  have HB2 : Hid (Below w.heap.size w w2) := stepB HB1.out b2
  have c3 : w2.cell? ⟨g1, 3, none⟩ = some (.slice (some ⟨b, off, none⟩) n c) := r1.cell 3
  clear b2 s2 hg2 HG1
  have HO0 : Hid (OwE w w2 (.slice none 0 0) [] [] w2) := OwE.start HB2.out
  have hT : EnV w2 (.slice (some ⟨b, off, none⟩) i c) (l.take i) (vs.take i) := (HV.out.kept HB2.out).take (by rw [← HN.out]; omega)
  have hi1 : (i : Int) ≤ (n : Int) := by omega
  have hi2 : (i : Int) ≤ (c : Int) := by omega
  have HLt : Hid ((l.take i).length ≤ 1000) := by show _ ≤ _; rw [List.length_take]; omega
  go_wp2_with (at_builtin; go_must (refine wpList_append_ens rfl _ _ rfl _ [] [] rfl HO0.out _ (l.take i) (vs.take i) rfl hT (HP.out.take i) (by have := HLt.out; simp only [List.length_nil]; omega) ?_))
  intro v3 w3 hO3
  replace hO3 : OwE w w2 v3 (l.take i) (vs.take i) w3 := hO3
  have hb3 := hO3.own.below
  have HR1 : Hid (BlkAt g1 40 _ w2) := r1
  have HR2 : Hid (BlkAt g2 40 _ w2) := r2
  have c3' : w3.cell? ⟨g1, 3, none⟩ = some (.slice (some ⟨b, off, none⟩) n c) := (r1.kept hb3).cell 3
  obtain ⟨j, hj⟩ : ∃ j : Nat, j = i + 1 := ⟨_, rfl⟩
  rw [← hj] at HE
  have hjn : j ≤ n := by omega
  have hD : EnV w3 (.slice (if c = j then some ⟨b, off, none⟩ else some ⟨b, off + j * 4, none⟩) (n - j) (c - j)) (l.drop j) (vs.drop j) := by
    have := ((HV.out.kept HB2.out).kept hb3).drop (k := j) (by rw [← HN.out]; omega)
    rwa [← HN.out] at this
  have HLd : Hid ((l.take i).length + (l.drop j).length ≤ 2000) := by show _ ≤ _; have := HN.out; rw [List.length_take, List.length_drop]; omega
  have e1 : IntKind.i64.wrap ((i : Int) + 1) = (j : Int) := by rw [IntWalk.i64_in _ (by omega)]; omega
  have hj1 : (j : Int) ≤ (n : Int) := by omega
  have hj2 : (j : Int) ≤ (c : Int) := by omega
  have HO3 : Hid (OwE w w2 v3 (l.take i) (vs.take i) w3) := hO3
  have HB3 : Hid (Below w.heap.size w w3) := HB2.out.trans (hb3.mono HB2.out.size)
  clear hO3 hb3 c3 hT hj HO0 hi1 hi2
  have HPE : Hid (PaV w (l.eraseIdx i) (vs.take i ++ vs.drop j)) := by show PaV _ _ _; rw [HE.out]; exact (HP.out.take i).append (HP.out.drop j) (by simp [HV.out.len])
  have HHD : Hid (c = j ∧ EnV w3 (.slice (some ⟨b, off, none⟩) 0 0) (l.drop j) (vs.drop j) ∨ c ≠ j ∧ EnV w3 (.slice (some ⟨b, off + j * 4, none⟩) (n - j) (c - j)) (l.drop j) (vs.drop j)) := by
    show _ ∨ _
    by_cases h : c = j
    · rw [if_pos h] at hD
      rw [h, Nat.sub_self, show n - j = 0 by omega] at hD
      exact .inl ⟨h, hD⟩
    · rw [if_neg h] at hD
      exact .inr ⟨h, hD⟩
  clear hD
  rcases HHD.out with ⟨hcj, hD⟩ | ⟨hcj, hD⟩
  · clear HHD
    subst hcj
    go_wp2_with (at_builtin; go_must (refine wpList_append_ens rfl _ _ rfl _ (l.take i) (vs.take i) rfl HO3.out _ _ _ rfl hD (HP.out.drop _) HLd.out ?_))
    intro v4 w4 hO4
    rw [← HE.out] at hO4
    obtain ⟨a4, k4, rfl, -⟩ := id hO4.rd.len
    obtain ⟨m, hm⟩ : ∃ m : Nat, m = (l.eraseIdx i).length := ⟨_, rfl⟩
    have HO4 : Hid (OwE w w2 _ (l.eraseIdx i) _ w4) := hO4
    have hb4 := hO4.own.below
    have r14 := (HR1.out).kept hb4
    have r24 := (HR2.out).kept hb4
    rw [← hm] at HO4 ⊢
    have f1 : w4.frozen? ⟨g1, 3, none⟩ = false := r14.free 3
    have c4 : w4.cell? ⟨g1, 3, none⟩ = some (.slice (some ⟨b, off, none⟩) n _) := r14.cell 3
    have r15 : BlkAt g1 40 (bfD B (.slice a4 m k4)) (w4.setCell ⟨g1, 3, none⟩ (.slice a4 m k4)) := BlkAt.set r14 3 (.slice a4 m k4)
    have hw5 : Wrote g1 w4 (w4.setCell ⟨g1, 3, none⟩ (.slice a4 m k4)) := Wrote.set _ _ _ _
    have r25 := r24.wrote hw5 (by have := HG2.out; omega)
    have HB4 : Hid (Below w.heap.size w w4) := HB2.out.trans (hb4.mono HB2.out.size)
    clear hO4 hb4 r1 r2 hD e1 hj1 hj2 hm HO3 HB3
    go_wp2_with (first
      | refine wpList_load_part rfl 40 _ rfl rfl [] (bfD B (.slice a4 m k4)) [] r15 (by simp) rfl Try.underlying40 rfl (infoBf _ _) ?_
      | (refine wpList_store_part rfl 40 _ _ rfl rfl (bfD B (.slice a4 m k4)) rfl [] zbD [] (bfD B (.slice a4 m k4)) r25 rfl rfl rfl rfl (infoBf B (.slice a4 m k4)) (bfD_one _ _ _ _) ?_; intro w6 r6 hw6))
    refine bodyPost_blk rfl rfl rfl r6 Try.underlying40 rfl (infoBf _ _) ?_
    have hb6 : Below w.heap.size w w6 := hw6.below _ _ HG2.out.2.1 (hw5.below _ _ HG2.out.1 HB4.out)
    refine ⟨.slice a4 m k4, rfl, ?_, hb6⟩
    have ho := HO4.out.own.rows _ (List.mem_cons_self ..)
    have ho5 := own_chgG ho (Chg.of_wrote hw5) fun g hg e => by have h := (ho.lt g hg).1; have := HG2.out.2.2; rw [e] at h; omega
    have ho6 := own_chgG ho5 (Chg.of_wrote hw6) fun g hg e => by have h := (ho.lt g hg).1; have := HG2.out.2.2; rw [e] at h; omega
    exact EnR.of ⟨HO4.out.len, RdE.of_own ho6⟩ (HPE.out.kept hb6)
  · clear HHD
    go_wp2_with (at_builtin; go_must (refine wpList_append_ens rfl _ _ rfl _ (l.take i) (vs.take i) rfl HO3.out _ _ _ rfl hD (HP.out.drop _) HLd.out ?_))
    intro v4 w4 hO4
    rw [← HE.out] at hO4
    obtain ⟨a4, k4, rfl, -⟩ := id hO4.rd.len
    obtain ⟨m, hm⟩ : ∃ m : Nat, m = (l.eraseIdx i).length := ⟨_, rfl⟩
    have HO4 : Hid (OwE w w2 _ (l.eraseIdx i) _ w4) := hO4
    have hb4 := hO4.own.below
    have r14 := (HR1.out).kept hb4
    have r24 := (HR2.out).kept hb4
    rw [← hm] at HO4 ⊢
    have f1 : w4.frozen? ⟨g1, 3, none⟩ = false := r14.free 3
    have c4 : w4.cell? ⟨g1, 3, none⟩ = some (.slice (some ⟨b, off, none⟩) n _) := r14.cell 3
    have r15 : BlkAt g1 40 (bfD B (.slice a4 m k4)) (w4.setCell ⟨g1, 3, none⟩ (.slice a4 m k4)) := BlkAt.set r14 3 (.slice a4 m k4)
    have hw5 : Wrote g1 w4 (w4.setCell ⟨g1, 3, none⟩ (.slice a4 m k4)) := Wrote.set _ _ _ _
    have r25 := r24.wrote hw5 (by have := HG2.out; omega)
    have HB4 : Hid (Below w.heap.size w w4) := HB2.out.trans (hb4.mono HB2.out.size)
    clear hO4 hb4 r1 r2 hD e1 hj1 hj2 hm HO3 HB3
    go_wp2_with (first
      | refine wpList_load_part rfl 40 _ rfl rfl [] (bfD B (.slice a4 m k4)) [] r15 (by simp) rfl Try.underlying40 rfl (infoBf _ _) ?_
      | (refine wpList_store_part rfl 40 _ _ rfl rfl (bfD B (.slice a4 m k4)) rfl [] zbD [] (bfD B (.slice a4 m k4)) r25 rfl rfl rfl rfl (infoBf B (.slice a4 m k4)) (bfD_one _ _ _ _) ?_; intro w6 r6 hw6))
    refine bodyPost_blk rfl rfl rfl r6 Try.underlying40 rfl (infoBf _ _) ?_
    have hb6 : Below w.heap.size w w6 := hw6.below _ _ HG2.out.2.1 (hw5.below _ _ HG2.out.1 HB4.out)
    refine ⟨.slice a4 m k4, rfl, ?_, hb6⟩
    have ho := HO4.out.own.rows _ (List.mem_cons_self ..)
    have ho5 := own_chgG ho (Chg.of_wrote hw5) fun g hg e => by have h := (ho.lt g hg).1; have := HG2.out.2.2; rw [e] at h; omega
    have ho6 := own_chgG ho5 (Chg.of_wrote hw6) fun g hg e => by have h := (ho.lt g hg).1; have := HG2.out.2.2; rw [e] at h; omega
    exact EnR.of ⟨HO4.out.len, RdE.of_own ho6⟩ (HPE.out.kept hb6)
end Go.Proofs.Ytkljklfejaojaaa
