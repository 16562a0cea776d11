/- What functions of the program, or of the reference, answer: contracts; several texts in one. -/
import Derived.Test.YtpoibhhijidobabGreatDoorQa
import Derived.Test.YtpoibhhijidobabGreatDoorBase
import Derived.Deep.QuietTactic
import Derived.BigQuiet
import Derived.WalkSpells
import Derived.RegionTactic
import Derived.BigRegion
import Derived.Shelf.Abstract

/- Which patterns may be written: contracts of package pattern, first part. -/
namespace Go.Proofs.YtpoibhhijidobabGreatDoor
open Go.ChangeShapes Go.WideShapes Go.ChangeAt Go.RowKit
set_option linter.unusedSimpArgs false
set_option linter.unusedVariables false

set_option maxHeartbeats 1000000 in
theorem fits_any (n m : Int) (w : World) :
    Calls Tryz.prog 46 #[.int .i64 n, .int .i64 m] w fun e w' => e = .returned (.bool (decide (1 ≤ n) && decide (n ≤ m))) ∧ w' = w := by
  by_cases h1 : 1 ≤ n
  · have d1 : decide ((1 : Int) ≤ n) = true := decide_eq_true h1
    go_enter Tryz.func46, Tryz.ntmps46
    go_wp2
    go_ret
    exact ⟨by rw [d1]; simp, rfl⟩
  · have d1 : decide ((1 : Int) ≤ n) = false := decide_eq_false h1
    have d2 : n < 1 := by omega
    go_enter Tryz.func46, Tryz.ntmps46
    go_wp2
    go_ret
    exact ⟨by first | rfl | (rw [d1]; rfl), rfl⟩

set_option maxHeartbeats 2000000 in
theorem isSign_any (x : UInt8) (C : Int) (hC : C = ((x.toNat : Nat) : Int)) (w : World) :
    Calls Tryz.prog 65 #[.int .u8 C] w fun e w' => e = .returned (.bool (nmC x)) ∧ w' = w := by
  obtain ⟨c, hc⟩ : ∃ c : Nat, c = x.toNat := ⟨_, rfl⟩
  obtain ⟨b, hb⟩ : ∃ b : Bool, b = nmC x := ⟨_, rfl⟩
  have hcs := nm_facts _ c b hc hb
  rw [← hc] at hC
  have HB : Hid (b = nmC x) := hb
  clear hb hc
  subst hC
  rcases hcs with ⟨p1, p2, p3, p4, p5, p6, p7, p8, hb⟩ | ⟨p1, p2, p3, p4, p5, p6, p7, p8, hb⟩ | ⟨p1, p2, p3, p4, p5, p6, p7, p8, hb⟩ | ⟨p1, p2, p3, p4, p5, p6, p7, p8, hb⟩ | ⟨p1, p2, p3, p4, p5, p6, p7, p8, hb⟩ | ⟨p1, p2, p3, p4, p5, p6, p7, p8, hb⟩ | ⟨p1, p2, p3, p4, p5, p6, p7, p8, hb⟩
  all_goals
    subst hb
    go_enter Tryz.func65, Tryz.ntmps65
    go_wp2
    go_ret
    exact ⟨by rw [← HB.out]; rfl, rfl⟩

set_option maxHeartbeats 4000000 in
theorem isName_any (s : List UInt8) (hs : s.length ≤ maxLen) (w : World) :
    Calls Tryz.prog 45 #[.string ⟨s.toArray⟩] w fun e w' => e = .returned (.bool (nmB s)) ∧ w' = w := by
  unfold maxLen at hs
  obtain ⟨L, hL⟩ : ∃ L : Nat, L = s.length := ⟨_, rfl⟩
  have HL : Hid (L = s.length) := hL
  have hsz : ByteArray.size ⟨s.toArray⟩ = L := by rw [hL]; rfl
  have hLb : L ≤ 9223372036854775807 := by omega
  have HA : Hid (∀ i, i < L → ∀ w : World, (Instr.index 9 (.string ⟨s.toArray⟩) (.int .i64 (i : Int))).run Tryz.prog w = .ok (.int .u8 ((s.getD i 0).toNat : Int)) w) := by
    show ∀ i, _
    intro i hi w
    exact str_at s i (by omega) w
  generalize hS : (⟨s.toArray⟩ : ByteArray) = S at hsz HA
  have HB : Hid (nmB s = (decide (1 ≤ (L : Int)) && decide ((L : Int) ≤ 32) && s.all nmC)) := by
    show _ = _
    unfold nmB
    rw [← hL]
    have e1 : decide (1 ≤ L) = decide (1 ≤ (L : Int)) := by by_cases h : 1 ≤ L <;> simp [h] <;> omega
    have e2 : decide (L ≤ 32) = decide ((L : Int) ≤ 32) := by by_cases h : L ≤ 32 <;> simp [h] <;> omega
    rw [e1, e2]
  clear hL hs hS
  go_enter Tryz.func45, Tryz.ntmps45
  go_wp2_with fail
  refine (fits_any _ _ _).mono ?_
  rintro e w1 ⟨rfl, rfl⟩
  obtain ⟨f, hf⟩ : ∃ f : Bool, f = (decide (1 ≤ (L : Int)) && decide ((L : Int) ≤ 32)) := ⟨_, rfl⟩
  rw [← hf]
  rw [← hf] at HB
  clear hf
  cases f with
  | false =>
    go_wp2
    go_ret
    exact ⟨by rw [HB.out]; rfl, rfl⟩
  | true =>
    go_wp2
    go_loop [10] (fun iv => ∃ i : Nat, i ≤ L ∧ iv = .int .i64 (i : Int) ∧ Hid (∀ k, k < i → nmC (s.getD k 0) = true)) (fun iv => L - (intOf iv).toNat)
    case atStart => exact ⟨0, by omega, rfl, (by show ∀ k, _; intro k hk; omega)⟩
    case round =>
      obtain ⟨i, hi, rfl, HI⟩ := hrel
      by_cases hlt : i < L
      · have hd : decide ((i : Int) < (L : Int)) = true := decide_eq_true (by omega)
        have hiI : (i : Int) < (L : Int) := by omega
        have ha := HA.out i hlt
        obtain ⟨x, hx⟩ : ∃ x : UInt8, x = s.getD i 0 := ⟨_, rfl⟩
        rw [← hx] at ha
        have HX : Hid (x = s.getD i 0) := hx
        clear hx
        go_wp2_with fail
        refine (isSign_any x _ rfl _).mono ?_
        rintro e w1 ⟨rfl, rfl⟩
        obtain ⟨b, hb⟩ : ∃ b : Bool, b = nmC x := ⟨_, rfl⟩
        rw [← hb]
        have HC : Hid (b = nmC x) := hb
        clear hb
        cases b with
        | true =>
          go_wp2
          go_round
          case rel => exact ⟨i + 1, by omega, by go_num, (by show ∀ k, _; intro k hk; rcases Nat.lt_or_ge k i with h | h; exact HI.out k h; rw [show k = i by omega, ← HX.out]; exact HC.out.symm)⟩
          case measure => simp [intOf] <;> omega
        | false =>
          have HF : Hid (nmB s = false) := by
            show _ = _
            rw [HB.out]
            have : s.all nmC = false := by
              rw [List.all_eq_false]
              refine ⟨s.getD i 0, ?_, by rw [← HX.out, ← HC.out]; simp⟩
              have h2 : i < s.length := by rw [← HL.out]; exact hlt
              simp [h2]
            rw [this]
            rfl
          go_wp2
          go_ret
          exact ⟨by rw [HF.out]; rfl, rfl⟩
      · have hd : decide ((i : Int) < (L : Int)) = false := decide_eq_false (by omega)
        have hiI : (L : Int) ≤ (i : Int) := by omega
        have HT : Hid (nmB s = true) := by
          show _ = _
          have h2 : s.all nmC = true := by
            rw [List.all_eq_true]
            intro x hx
            obtain ⟨k, hk, rfl⟩ := List.mem_iff_getElem.1 hx
            have := HI.out k (by have := HL.out; omega)
            simpa [hk] using this
          rw [HB.out, h2]
          rfl
        go_wp2
        go_ret
        exact ⟨by rw [HT.out]; rfl, rfl⟩

theorem wrM_eq (t : List Int) : wrM t = (decide (1 ≤ ((t.length : Nat) : Int)) && decide (((t.length : Nat) : Int) ≤ 12) && t.all tkB) := by
  unfold wrM
  have e1 : decide (1 ≤ t.length) = decide (1 ≤ (t.length : Int)) := by by_cases h : 1 ≤ t.length <;> simp [h] <;> omega
  have e2 : decide (t.length ≤ 12) = decide ((t.length : Int) ≤ 12) := by by_cases h : t.length ≤ 12 <;> simp [h] <;> omega
  rw [e1, e2]
theorem tk_cases (x : Int) : (decide (x < 1) = true ∧ x < 1 ∧ tkB x = false) ∨ (decide (x < 1) = false ∧ 1 ≤ x ∧ decide (10 < x) = true ∧ 10 < x ∧ tkB x = false) ∨ (decide (x < 1) = false ∧ 1 ≤ x ∧ decide (10 < x) = false ∧ x ≤ 10 ∧ tkB x = true) := by
  unfold tkB
  by_cases h1 : x < 1
  · exact .inl ⟨decide_eq_true h1, h1, by rw [decide_eq_false (by omega)]; rfl⟩
  · by_cases h2 : 10 < x
    · exact .inr (.inl ⟨decide_eq_false h1, by omega, decide_eq_true h2, h2, by rw [decide_eq_false (by omega : ¬ x ≤ 10)]; simp⟩)
    · exact .inr (.inr ⟨decide_eq_false h1, by omega, decide_eq_false h2, by omega, by rw [decide_eq_true (by omega), decide_eq_true (by omega)]; rfl⟩)

set_option maxRecDepth 100000 in
set_option maxHeartbeats 4000000 in
theorem wrMsg_any (b : Bool) (v : Value) (t : List Int) (A : Array Value) (hA : A = #[.bool b, v]) (w : World) (h : RdI .i64 w v t) :
    Calls Tryz.prog 47 #[.agg A] w fun e w' => e = .returned (.bool (wrM t)) ∧ Below w.heap.size w w' := by
  obtain ⟨a, c, rfl, h1, h2, -, -⟩ := id h
  unfold maxLen at h2
  obtain ⟨M, hM⟩ : ∃ M : Nat, M = t.length := ⟨_, rfl⟩
  have HR : Hid (RdI .i64 w (.slice a M c) t) := by rw [hM]; exact h
  rw [← hM] at h1 hA
  have HM : Hid (M = t.length) := hM
  have HW : Hid (wrM t = (decide (1 ≤ (M : Int)) && decide ((M : Int) ≤ 12) && t.all tkB)) := by show _ = _; rw [wrM_eq, hM]
  clear h hM
  go_enter Tryz.func47, Tryz.ntmps47
  go_wp2_with (refine wpList_box_blk rfl 48 _ rfl [.bool b, .slice a M c] (by rw [← hA]; rfl) ?_)
  intro w1 r1 b1 s1
  have c1 : w1.cell? ⟨w.heap.size, 1, none⟩ = some (.slice a M c) := r1.cell 1
  have HR1 : Hid (RdI .i64 w1 (.slice a M c) t) := HR.out.kept b1
  have hbw := b1
  clear r1 b1 s1 hA
  go_wp2_with fail
  refine (fits_any _ _ _).mono ?_
  rintro e w2 ⟨rfl, rfl⟩
  obtain ⟨f, hf⟩ : ∃ f : Bool, f = (decide (1 ≤ (M : Int)) && decide ((M : Int) ≤ 12)) := ⟨_, rfl⟩
  rw [← hf]
  rw [← hf] at HW
  clear hf
  cases f with
  | false =>
    go_wp2
    go_ret
    exact ⟨by rw [HW.out]; rfl, hbw⟩
  | true =>
    go_wp2
    go_loop [13] (fun iv => ∃ i : Nat, i ≤ M ∧ iv = .int .i64 (i : Int) ∧ Hid (∀ k, k < i → tkB (t.getD k 0) = true)) (fun iv => M - (intOf iv).toNat)
    case atStart => exact ⟨0, by omega, rfl, (by show ∀ k, _; intro k hk; omega)⟩
    case round =>
      obtain ⟨j, hj, rfl, HJ⟩ := hrel
      by_cases hltj : j < M
      · have hdj : decide ((j : Int) < (M : Int)) = true := decide_eq_true (by omega)
        have hjI : (j : Int) < (M : Int) := by omega
        obtain ⟨gr, or, c', ev, -, hcj, -⟩ := HR1.out.cellAt (i := j) (by rw [← HM.out]; exact hltj)
        simp only [Value.slice.injEq] at ev
        obtain ⟨rfl, -, rfl⟩ := ev
        obtain ⟨x, hx⟩ : ∃ x : Int, x = t.getD j 0 := ⟨_, rfl⟩
        rw [← hx] at hcj
        have HX : Hid (x = t.getD j 0) := hx
        have HF : Hid (tkB x = false → wrM t = false) := fun e => wrM_false (j := j) (by rw [← HM.out]; exact hltj) (by rw [← HX.out]; exact e)
        clear hx
        rcases tk_cases x with ⟨q1, q2, hf⟩ | ⟨q1, q2, q3, q4, hf⟩ | ⟨q1, q2, q3, q4, hf⟩
        · have HF : Hid (wrM t = false) := HF.out hf
          clear hf
          go_wp2
          go_ret
          exact ⟨by rw [HF.out]; rfl, hbw⟩
        · have HF : Hid (wrM t = false) := HF.out hf
          clear hf
          go_wp2
          go_ret
          exact ⟨by rw [HF.out]; rfl, hbw⟩
        · have HO : Hid (tkB x = true) := hf
          clear hf
          go_wp2
          go_round
          case rel => exact ⟨j + 1, by omega, by go_num, (by show ∀ k, _; intro k hk; rcases Nat.lt_or_ge k j with h | h; exact HJ.out k h; rw [show k = j by omega, ← HX.out]; exact HO.out)⟩
          case measure => simp [intOf] <;> omega
      · have hdj : decide ((j : Int) < (M : Int)) = false := decide_eq_false (by omega)
        have hjI : (M : Int) ≤ (j : Int) := by omega
        have HO : Hid (wrM t = true) := by
          show _ = _
          have h2 : t.all tkB = true := by
            rw [List.all_eq_true]
            intro x hx
            obtain ⟨k, hk, rfl⟩ := List.mem_iff_getElem.1 hx
            have := HJ.out k (by have := HM.out; omega)
            simpa [hk] using this
          rw [HW.out, h2]
          rfl
        go_wp2
        go_ret
        exact ⟨by rw [HO.out]; rfl, hbw⟩

/-! ### Messages that are taken out of a row -/
/-- A variable is loaded whole in a guarded operation. -/
theorem wpList_loadG {P : Program} {ops : Array Oper} {rest : List Oper} {op : Oper} {a : Act} {w : World} {Q : Exit → Act → World → Prop} (ty : TypeId) (x : Operand) (ho : op.op = .load ty x) {g : Nat} (hx : a.eval x = .pointer (some ⟨g, 0, none⟩))
    {bt : TypeId} (cs : List Value) (hb : BlkAt g bt cs w) {d : TypeDesc} (hu : P.underlying ty = some d) (hd : d.isRow = true) (hi : (P.info? ty).map (·.size) = some cs.length) (hw : Region.wanted op (yielded ops a.tmps) = true)
    (h : wpList P ops Q rest (a.put op.dst (.agg cs.toArray)) w) : wpList P ops Q (op :: rest) a w := by
  refine wpList_step fun K hK => ?_
  rw [if_pos hw]
  unfold Oper.wp
  rw [exec_load_part ty x ho hx [] cs [] hb (Below.refl _ _) (by simp) rfl hu hd hi]
  exact hK _ _ h

theorem cellKP {w W : World} {p : Addr} {v : Value} (h : w.cell? p = some v) (hb : Below w.heap.size w W) : W.cell? p = some v := by
  rw [hb.cell (World.block_lt_of_cell? _ _ h)]
  exact h
theorem infoMsg : (Tryz.prog.info? 48).map (·.size) = some 2 := by kernel_rfl
theorem allocMsg (w : World) : (Instr.alloc 48 true (.tuple #[])).run Tryz.prog w = .ok (.pointer (some ⟨w.heap.size, 0, none⟩)) (w.alloc (.cells #[.bool false, .slice none 0 0] 48)) := by kernel_rfl
theorem range_two {w : World} {b o : Nat} {u v : Value} (h0 : w.cell? ⟨b, o, none⟩ = some u) (h1 : w.cell? ⟨b, o + 1, none⟩ = some v) : w.rangeAt b o [u, v] := by
  intro j x hj
  match j, hj with
  | 0, hj => simp at hj; subst hj; exact h0
  | 1, hj => simp at hj; subst hj; exact h1
theorem ms_at {w : World} {a : Option Addr} {n c : Nat} {p : Ptn} (h : MsR w (.slice a n c) p) {k : Nat} (hk : k < p.n) : ∃ b off a' c', a = some ⟨b, off, none⟩ ∧ w.cell? ⟨b, off + k * 2, none⟩ = some (.bool (p.ini k)) ∧ w.cell? ⟨b, off + k * 2 + 1, none⟩ = some (.slice a' (p.tk k).length c') ∧ RdI .i64 w (.slice a' (p.tk k).length c') (p.tk k) ∧ (p.tk k).length ≤ c' ∧ c' ≤ maxLen := by
  obtain ⟨a', cap', ev, -, -, h5⟩ := h.form
  simp only [Value.slice.injEq] at ev
  obtain ⟨rfl, -, rfl⟩ := ev
  rcases h5 with h5 | ⟨b, off, rfl, hc⟩
  · omega
  obtain ⟨vt, g1, g2, g3⟩ := hc k hk
  obtain ⟨at', ct, rfl, hv2, hv3, -, -⟩ := id g3
  rw [show off + (2 * k + 1) = off + k * 2 + 1 by omega] at g2
  rw [show off + 2 * k = off + k * 2 by omega] at g1
  exact ⟨b, off, at', ct, rfl, g1, g2, g3, hv2, hv3⟩
end Go.Proofs.YtpoibhhijidobabGreatDoor

/- Which patterns may be written, and what is said in them: contracts of package pattern, second part. -/
namespace Go.Proofs.YtpoibhhijidobabGreatDoor
open Go.ChangeShapes Go.WideShapes Go.ChangeAt Go.RowKit
set_option linter.unusedSimpArgs false
set_option linter.unusedVariables false

theorem oneCell2 (b : Bool) (a : Option Addr) (n c : Nat) : ([.bool b, .slice a n c] : List Value).toArray.all (·.oneCell') = true := all_oneCell_toArray (by
  intro v hv
  simp only [List.mem_cons, List.not_mem_nil, or_false] at hv
  rcases hv with rfl | rfl <;> rfl)

theorem wrB_eq (p : Ptn) : wrB p = (nmB p.name && (decide (1 ≤ ((p.n : Nat) : Int)) && decide (((p.n : Nat) : Int) ≤ 8)) && p.ms.all fun m => wrM m.2) := by
  unfold wrB
  have e1 : decide (1 ≤ p.n) = decide (1 ≤ (p.n : Int)) := by by_cases h : 1 ≤ p.n <;> simp [h] <;> omega
  have e2 : decide (p.n ≤ 8) = decide ((p.n : Int) ≤ 8) := by by_cases h : p.n ≤ 8 <;> simp [h] <;> omega
  rw [e1, e2, Bool.and_assoc (nmB p.name)]
theorem all_true {p : Ptn} (h : ∀ k, k < p.n → wrM (p.tk k) = true) : (p.ms.all fun m => wrM m.2) = true := by
  rw [List.all_eq_true]
  intro m hm
  obtain ⟨k, hk, rfl⟩ := List.mem_iff_getElem.1 hm
  have := h k hk
  unfold Ptn.tk at this
  simpa [hk] using this

set_option maxRecDepth 100000 in
set_option maxHeartbeats 4000000 in
theorem writable_any (p : Ptn) (vm : Value) (A : Array Value) (hA : A = (paC p vm).toArray) (hnm : p.name.length ≤ maxLen) (w : World) (h : MsR w vm p) :
    Calls Tryz.prog 20 #[.agg A] w fun e w' => e = .returned (.bool (wrB p)) ∧ Below w.heap.size w w' := by
  obtain ⟨a, cap, rfl, hl, hm, -⟩ := id h.form
  obtain ⟨n, hn⟩ : ∃ n : Nat, n = p.n := ⟨_, rfl⟩
  have HW : Hid (wrB p = (nmB p.name && (decide (1 ≤ (n : Int)) && decide ((n : Int) ≤ 8)) && p.ms.all fun m => wrM m.2)) := by show _ = _; rw [wrB_eq, hn]
  rw [← hn] at h hl hA
  have HN : Hid (n = p.n) := hn
  unfold maxLen at hm
  have HM : Hid (MsR w (.slice a n cap) p) := h
  obtain ⟨SB, hSB⟩ : ∃ B : ByteArray, B = ⟨p.name.toArray⟩ := ⟨_, rfl⟩
  have HSB : Hid (SB = ⟨p.name.toArray⟩) := hSB
  have HNm : Hid (p.name.length ≤ maxLen) := hnm
  clear h hn hnm
  go_enter Tryz.func20, Tryz.ntmps20
  go_wp2_with (refine wpList_box_blk rfl 25 _ rfl (paC p (.slice a n cap)) (by rw [← hA]; rfl) ?_)
  intro w1 r1 b1 s1
  have c2 : w1.cell? ⟨w.heap.size, 3, none⟩ = some (.slice a n cap) := r1.cell 3
  have c0 : w1.cell? ⟨w.heap.size, 0, none⟩ = some (.string SB) := by rw [hSB]; exact r1.cell 0
  have HM1 : Hid (MsR w1 (.slice a n cap) p) := HM.out.kept b1
  have hbw := b1
  clear b1 s1 hA hSB r1 HM
  go_wp2_with fail
  rw [HSB.out]
  refine (isName_any p.name HNm.out _).mono ?_
  rintro e w1 ⟨rfl, rfl⟩
  obtain ⟨nb, hnb⟩ : ∃ b : Bool, b = nmB p.name := ⟨_, rfl⟩
  rw [← hnb]
  rw [← hnb] at HW
  clear hnb
  cases nb with
  | false =>
    go_wp2
    go_ret
    exact ⟨by rw [HW.out]; rfl, hbw⟩
  | true =>
    go_wp2_with fail
    refine (fits_any _ _ _).mono ?_
    rintro e w1 ⟨rfl, rfl⟩
    obtain ⟨f, hf⟩ : ∃ f : Bool, f = (decide (1 ≤ (n : Int)) && decide ((n : Int) ≤ 8)) := ⟨_, rfl⟩
    rw [← hf]
    rw [← hf] at HW
    clear hf
    cases f with
    | false =>
      go_wp2
      go_ret
      exact ⟨by rw [HW.out]; rfl, hbw⟩
    | true =>
      go_wp2
      go_loopw [19] (fun iv wx => ∃ i : Nat, i ≤ n ∧ iv = .int .i64 (i : Int) ∧ Hid (∀ k, k < i → wrM (p.tk k) = true) ∧ Below w1.heap.size w1 wx) (fun iv _ => n - (intOf iv).toNat)
      case atStart => exact ⟨0, by omega, rfl, (by show ∀ k, _; intro k hk; omega), Below.refl _ _⟩
      case round =>
        obtain ⟨i, hi, rfl, HI, hbx⟩ := hrel
        by_cases hlt : i < n
        · have hd : decide ((i : Int) < (n : Int)) = true := decide_eq_true (by omega)
          have hiI : (i : Int) < (n : Int) := by omega
          obtain ⟨b, off, a', c', rfl, g1, g2, g3, g4, g5⟩ := ms_at (HM1.out.kept hbx) (k := i) (by rw [← HN.out]; exact hlt)
          obtain ⟨t, ht⟩ : ∃ t : List Int, t = p.tk i := ⟨_, rfl⟩
          rw [← ht] at g2 g3 g4
          obtain ⟨M, hM⟩ : ∃ M : Nat, M = t.length := ⟨_, rfl⟩
          rw [← hM] at g2 g3 g4
          obtain ⟨q, hq⟩ : ∃ q : Bool, q = p.ini i := ⟨_, rfl⟩
          rw [← hq] at g1
          have HT : Hid (t = p.tk i) := ht
          have hrg := range_two g1 g2
          have HR : Hid (RdI .i64 wr (.slice a' M c') t) := g3
          clear ht hM hq g1 g2 g3 g4 g5
          go_wp2_with (first
            | refine wpList_load_mid rfl 48 _ rfl b (off + i * 2) rfl [.bool q, .slice a' M c'] _ hrg Tryz.underlying48 rfl infoMsg ?_
            | refine wpList_alloc_blk rfl 48 rfl [.bool false, .slice none 0 0] (allocMsg _) ?_)
          intro w2 r2 b2 s2
          go_wp2_with (refine wpList_store_part rfl 48 _ _ rfl rfl [.bool q, .slice a' M c'] rfl [] [.bool false, .slice none 0 0] [] [.bool q, .slice a' M c'] r2 rfl rfl rfl rfl infoMsg (oneCell2 _ _ _ _) ?_)
          intro w3 r3 hw3
          have b3 : Below wr.heap.size wr w3 := hw3.below _ _ (Nat.le_refl _) b2
          have hbx3 := stepB hbx b3
          have HR3 : Hid (RdI .i64 w3 (.slice a' M c') t) := HR.out.kept b3
          clear b2 s2 r2 hw3 b3 hrg
          go_wp2_with (refine wpList_load_part rfl 48 _ rfl rfl [] [.bool q, .slice a' M c'] [] r3 rfl rfl Tryz.underlying48 rfl infoMsg ?_)
          refine (wrMsg_any q _ t _ rfl _ HR3.out).mono ?_
          rintro e w4 ⟨rfl, b4⟩
          replace hbx3 := stepB hbx3 b4
          obtain ⟨m, hm⟩ : ∃ m : Bool, m = wrM t := ⟨_, rfl⟩
          rw [← hm]
          have HM' : Hid (m = wrM t) := hm
          clear hm r3 HR3 b4
          cases m with
          | false =>
            have HF : Hid (wrB p = false) := wr_false (k := i) (by rw [← HN.out]; exact hlt) (by rw [← HT.out]; exact HM'.out.symm)
            go_wp2
            go_ret
            exact ⟨by rw [HF.out]; rfl, stepB hbw hbx3⟩
          | true =>
            go_wp2
            go_roundw
            case rel => exact ⟨i + 1, by omega, by go_num, (by show ∀ k, _; intro k hk; rcases Nat.lt_or_ge k i with h | h; exact HI.out k h; rw [show k = i by omega, ← HT.out]; exact HM'.out.symm), hbx3⟩
            case measure => simp [intOf] <;> omega
        · have hd : decide ((i : Int) < (n : Int)) = false := decide_eq_false (by omega)
          have hiI : (n : Int) ≤ (i : Int) := by omega
          have HO : Hid (wrB p = true) := by
            show _ = _
            rw [HW.out, all_true fun k hk => HI.out k (by rw [← HN.out] at hk; omega)]
            rfl
          go_wp2
          go_ret
          exact ⟨by rw [HO.out]; rfl, stepB hbw hbx⟩

/-- Are the messages by turns, the initiator's first? -/
def tnB (p : Ptn) : Bool := (List.range p.n).all fun m => decide (p.ini m = decide (m % 2 = 0))

set_option maxRecDepth 100000 in
set_option maxHeartbeats 4000000 in
theorem byTurns_any (p : Ptn) (vm : Value) (w : World) (h : MsR w vm p) :
    Calls Tryz.prog 42 #[vm] w fun e w' => e = .returned (.bool (tnB p)) ∧ Below w.heap.size w w' := by
  obtain ⟨a, cap, rfl, hl, hm, -⟩ := id h.form
  obtain ⟨n, hn⟩ : ∃ n : Nat, n = p.n := ⟨_, rfl⟩
  rw [← hn] at h hl
  have HN : Hid (n = p.n) := hn
  unfold maxLen at hm
  have HM1 : Hid (MsR w (.slice a n cap) p) := h
  rw [← hn]
  clear h hn
  go_enter Tryz.func42, Tryz.ntmps42
  go_wp2
  go_loopw [7] (fun iv wx => ∃ i : Nat, i ≤ n ∧ iv = .int .i64 (i : Int) ∧ Hid (∀ k, k < i → p.ini k = decide (k % 2 = 0)) ∧ Below w.heap.size w wx) (fun iv _ => n - (intOf iv).toNat)
  case atStart => exact ⟨0, by omega, rfl, (by show ∀ k, _; intro k hk; omega), Below.refl _ _⟩
  case round =>
    obtain ⟨i, hi, rfl, HI, hbx⟩ := hrel
    by_cases hlt : i < n
    · have hd : decide ((i : Int) < (n : Int)) = true := decide_eq_true (by omega)
      have hiI : (i : Int) < (n : Int) := by omega
      obtain ⟨b, off, a', c', rfl, g1, g2, g3, g4, g5⟩ := ms_at (HM1.out.kept hbx) (k := i) (by rw [← HN.out]; exact hlt)
      obtain ⟨M, hM⟩ : ∃ M : Nat, M = (p.tk i).length := ⟨_, rfl⟩
      rw [← hM] at g2
      obtain ⟨q, hq⟩ : ∃ q : Bool, q = p.ini i := ⟨_, rfl⟩
      rw [← hq] at g1
      have HQ : Hid (q = p.ini i) := hq
      have hrg := range_two g1 g2
      have hr0 : (i : Int).tmod 2 = ((i % 2 : Nat) : Int) := by rw [Int.tmod_eq_emod_of_nonneg (by omega)]; omega
      obtain ⟨e0, he0⟩ : ∃ e : Bool, e = decide (i % 2 = 0) := ⟨_, rfl⟩
      have HE : Hid (e0 = decide (i % 2 = 0)) := he0
      have hr1 : (((i % 2 : Nat) : Int) == 0) = e0 := by
        rw [he0]
        rcases Nat.mod_two_eq_zero_or_one i with h | h <;> rw [h] <;> rfl
      obtain ⟨r, hr⟩ : ∃ r : Nat, r = i % 2 := ⟨_, rfl⟩
      rw [← hr] at hr0 hr1
      clear hM hq g1 g2 g3 g4 g5 he0 hr
      go_wp2_with (first
        | refine wpList_load_mid rfl 48 _ rfl b (off + i * 2) rfl [.bool q, .slice a' M c'] _ hrg Tryz.underlying48 rfl infoMsg ?_
        | refine wpList_alloc_blk rfl 48 rfl [.bool false, .slice none 0 0] (allocMsg _) ?_)
      intro w2 r2 b2 s2
      go_wp2_with (refine wpList_store_part rfl 48 _ _ rfl rfl [.bool q, .slice a' M c'] rfl [] [.bool false, .slice none 0 0] [] [.bool q, .slice a' M c'] r2 rfl rfl rfl rfl infoMsg (oneCell2 _ _ _ _) ?_)
      intro w3 r3 hw3
      have b3 : Below wr.heap.size wr w3 := hw3.below _ _ (Nat.le_refl _) b2
      have hbx3 := stepB hbx b3
      have c3 : w3.cell? ⟨wr.heap.size, 0, none⟩ = some (.bool q) := r3.cell 0
      clear b2 s2 r2 hw3 b3 hrg r3
      by_cases hqe : q = e0
      · have hne : (q != e0) = false := by rw [hqe]; simp
        have HI2 : Hid (∀ k, k < i + 1 → p.ini k = decide (k % 2 = 0)) := by
          show ∀ k, _
          intro k hk
          rcases Nat.lt_or_ge k i with h | h
          · exact HI.out k h
          · rw [show k = i by omega, ← HQ.out, ← HE.out]; exact hqe
        clear hqe
        cases q <;> cases e0 <;> simp at hne
        all_goals
          go_wp2
          go_roundw
          case rel => exact ⟨i + 1, by omega, by go_num, HI2, hbx3⟩
          case measure => simp [intOf] <;> omega
      · have HF : Hid (tnB p = false) := by
          show _ = _
          unfold tnB
          rw [List.all_eq_false]
          refine ⟨i, List.mem_range.2 (by rw [← HN.out]; exact hlt), ?_⟩
          rw [← HQ.out, ← HE.out]
          simpa using hqe
        cases q <;> cases e0 <;> simp at hqe
        all_goals
          go_wp2
          go_ret
          exact ⟨by rw [HF.out]; rfl, hbx3⟩
    · have hd : decide ((i : Int) < (n : Int)) = false := decide_eq_false (by omega)
      have hiI : (n : Int) ≤ (i : Int) := by omega
      have HO : Hid (tnB p = true) := by
        show _ = _
        unfold tnB
        rw [List.all_eq_true]
        intro k hk
        have := HI.out k (by have := List.mem_range.1 hk; rw [← HN.out] at this; omega)
        exact decide_eq_true this
      go_wp2
      go_ret
      exact ⟨by rw [HO.out]; rfl, hbx⟩

set_option maxHeartbeats 1000000 in
theorem sideOf_any (b : Bool) (w : World) :
    Calls Tryz.prog 23 #[.bool b] w fun e w' => e = .returned (.int .i64 (if b then 0 else 1)) ∧ w' = w := by
  cases b
  all_goals
    go_enter Tryz.func23, Tryz.ntmps23
    go_wp2
    go_ret
    exact ⟨rfl, rfl⟩
end Go.Proofs.YtpoibhhijidobabGreatDoor

/- A region whose order is open, walked once, where one operation, number n, may write what it likes, and what holds till then is a condition of one's own; what touches no memory may come whenever. No program's text is named. -/
namespace Go.Proofs.YtpoibhhijidobabGreatDoor
set_option linter.unusedSimpArgs false
set_option linter.unusedVariables false
open Go.RowKit

section
variable {P : Program} {ops : Array Oper} {Q : Exit → Act → World → Prop} {md : Region.Mode} {S : World → Prop} {n : Nat}

theorem wpS_skip {i : Nat} {oi : Oper} {fuel : Nat} {listed : Array Bool} {a : Act} {w : World} (hS : S w) (hi : ops[i]? = some oi)
    (hs : Region.noSelect ops = true) (hf : Region.free md ops listed i = true) (hr : (Region.ready md ops listed).contains i = true)
    (hw : Region.wanted oi (yielded ops a.tmps) = false)
    (h : wpAnyH P md ops (NoPanic Q) S fuel (listed.setIfInBounds i true) (a.put oi.dst undef) w) : wpAnyH P md ops (NoPanic Q) S (fuel + 1) listed a w :=
  wpAnyH_take hi hs hf hr (fun _ _ _ h => h) (.inr ⟨hw, rfl⟩) hS h
theorem wpV_begin (n : Nat) (S : World → Prop) {id : Nat} {a : Act} {w : World} (hm : P.follows .mixedOrders = true)
    (h : wpAnyF P .any ops (NoPanic Q) S n ops.size (Array.replicate ops.size false) a w.drew) : (Code.region id ops true).wp P Q a w :=
  wp_region_noPanic (wp_region_any hm (wpAny_of_F _ _ _ _ h))
theorem wpV_take {i : Nat} {oi : Oper} {v : Value} {fuel : Nat} {listed : Array Bool} {a : Act} {w : World} (hS : S w) (hi : ops[i]? = some oi) (hin : i ≠ n) (hl : waitsB md ops n i = true) (hnl : listed.getD n true = false)
    (hs : Region.noSelect ops = true) (hf : Region.free md ops listed i = true) (hr : (Region.ready md ops listed).contains i = true)
    (hw : Region.wanted oi (yielded ops a.tmps) = true) (hy : ∀ W, S W → (execOp a.eval oi).run P W = .ok (.value v) W)
    (h : wpAnyF P md ops (NoPanic Q) S n fuel (listed.setIfInBounds i true) (a.put oi.dst v) w) : wpAnyF P md ops (NoPanic Q) S n (fuel + 1) listed a w :=
  wpAnyF_first hi hin hl (Region.noSelect_spec hs) (fun _ _ _ h => h) fuel listed a w (Region.free_spec hi hf) (by simpa using hr) (.inl ⟨hw, hy⟩) hS hnl h
theorem wpV_pure {i : Nat} {oi : Oper} {v : Value} {fuel : Nat} {listed : Array Bool} {a : Act} {w : World} (hS : listed.getD n true = true ∨ S w) (hi : ops[i]? = some oi) (hin : i ≠ n)
    (hs : Region.noSelect ops = true) (hf : Region.free md ops listed i = true) (hr : (Region.ready md ops listed).contains i = true)
    (hw : Region.wanted oi (yielded ops a.tmps) = true) (hy : ∀ W, (execOp a.eval oi).run P W = .ok (.value v) W)
    (h : wpAnyF P md ops (NoPanic Q) S n fuel (listed.setIfInBounds i true) (a.put oi.dst v) w) : wpAnyF P md ops (NoPanic Q) S n (fuel + 1) listed a w :=
  wpAnyF_pure hi hin (Region.noSelect_spec hs) (fun _ _ _ h => h) fuel listed a w (Region.free_spec hi hf) (by simpa using hr) (.inl ⟨hw, fun W _ => hy W⟩) hS h
theorem wpV_do {i : Nat} {o : Oper} {fuel : Nat} {listed : Array Bool} {a : Act} {w : World} (hr : Region.ready md ops listed = [i]) (hi : ops[i]? = some o)
    (hw : Region.wanted o (yielded ops a.tmps) = true)
    (h : ∀ K : Act → World → Prop, Shut (∀ a' w', (i = n ∨ S w') → wpAnyF P md ops Q S n fuel (listed.setIfInBounds i true) a' w' → K a' w') → o.wp P a w K Q) : wpAnyF P md ops Q S n (fuel + 1) listed a w := by
  have hmem : i ∈ Region.ready md ops listed := by rw [hr]; simp
  refine ⟨(fun h0 => by rw [hr] at h0; cases h0), fun j hj => ?_⟩
  rw [hr] at hj
  obtain rfl : j = i := by simpa using hj
  have h1 := h (fun a' w' => ((listed.setIfInBounds j true).getD n true = true ∨ S w') ∧ wpAnyF P md ops Q S n fuel (listed.setIfInBounds j true) a' w')
    (fun a' w' hb hg => ⟨hb.imp (fun e => by
      subst e
      rcases Nat.lt_or_ge j listed.size with h' | h'
      · simp [h']
      · simp [Array.getElem?_eq_none h']) id, hg⟩)
  unfold wpOp
  simp only [hi, hw, if_true]
  exact .inl h1
theorem wpV_done {fuel : Nat} {listed : Array Bool} {a : Act} {w : World} (hr : Region.ready md ops listed = []) (h : Q .normal a w) : wpAnyF P md ops (NoPanic Q) S n fuel listed a w := by
  cases fuel with
  | zero => exact ⟨hr, h⟩
  | succ fuel => exact ⟨fun _ => h, by rw [hr]; intro i hi; cases hi⟩
end
end Go.Proofs.YtpoibhhijidobabGreatDoor

/- A pattern as the document's own text has it: contracts of the laws' own functions of layer 15, second part. -/
namespace Go.Proofs.YtpoibhhijidobabGreatDoor
open Go.ChangeShapes Go.WideShapes Go.ChangeAt Go.RowKit
set_option linter.unusedSimpArgs false
set_option linter.unusedVariables false

/-- The tokens' rows that were made so far. -/
structure RsT (rest : List Rw) (vs : List Value) (q : Ptn) : Prop where
  len : vs.length = q.n
  toks : ∀ k (h : k < vs.length), (⟨3, 1, vs[k], (q.tk k).length, (q.tk k).map (Value.int .i64)⟩ : Rw) ∈ rest
  kinds : ∀ r ∈ rest, r.ty = 3
theorem RsT.next {rest : List Rw} {vs : List Value} {p : Ptn} (h : RsT rest vs p) (b : Bool) (t : List Int) (v : Value) : RsT (⟨3, 1, v, t.length, t.map (Value.int .i64)⟩ :: rest) (vs ++ [v]) ⟨p.name, p.ki, p.kr, p.ms ++ [(b, t)]⟩ := by
  have hl : vs.length = p.ms.length := h.len
  refine ⟨by simp [Ptn.n, hl], fun k hk => ?_, fun q hq => ?_⟩
  · by_cases hk2 : k < vs.length
    · have e1 : (vs ++ [v])[k] = vs[k] := List.getElem_append_left hk2
      have e2 : Ptn.tk ⟨p.name, p.ki, p.kr, p.ms ++ [(b, t)]⟩ k = p.tk k := by
        unfold Ptn.tk
        have : k < p.ms.length := by omega
        simp [List.getD, List.getElem?_append_left this]
      rw [e1, e2]
      exact List.mem_cons_of_mem _ (h.toks k hk2)
    · have hke : k = vs.length := by simp at hk; omega
      subst hke
      have e1 : (vs ++ [v])[vs.length] = v := by simp
      have e2 : Ptn.tk ⟨p.name, p.ki, p.kr, p.ms ++ [(b, t)]⟩ vs.length = t := by
        unfold Ptn.tk
        rw [hl]
        simp [List.getD]
      rw [e1, e2]
      exact List.mem_cons_self ..
  · rcases List.mem_cons.1 hq with rfl | hq
    · rfl
    · exact h.kinds q hq
/-- None of these rows lies where a whole block of another kind lies. -/
theorem rows_far {L : List Rw} {w w' : World} {g : Nat} {ty : TypeId} {cs : List Value} (hO : OwnG w L w') (hb : BlkAt g ty cs w') (hk : ∀ q ∈ L, q.ty ≠ ty) : ∀ q ∈ L, ∀ b, q.v.ownBlock = some b → b ≠ g :=
  fun q hq b hqb e => row_not_blk (hO.rows q hq) hb (hk q hq) (by rw [hqb, e])
theorem kinds_far {rest : List Rw} {vs : List Value} {p : Ptn} (h : RsT rest vs p) {L : List Rw} (hL : ∀ q ∈ L, q.ty = 3 ∨ q.ty = 4 ∨ q.ty = 63) (ty : TypeId) (h1 : (3 : TypeId) ≠ ty) (h2 : (4 : TypeId) ≠ ty) (h3 : (63 : TypeId) ≠ ty) : ∀ q ∈ L ++ rest, q.ty ≠ ty := by
  intro q hq
  rcases List.mem_append.1 hq with hq | hq
  · rcases hL q hq with e | e | e <;> rw [e] <;> assumption
  · rw [h.kinds q hq]
    exact h1
theorem build_md (s : ByteArray) (a b : Bool) (w : World) : (Instr.build 36 #[(0, .string s), (1, .bool a), (2, .bool b)]).run Tryz.prog w = .ok (.agg [.string s, .bool a, .bool b, .slice none 0 0, .slice none 0 0].toArray) w := by kernel_rfl
/-- What is read while a message is told. -/
structure Mw (g b o go : Nat) (vm : Value) (q : Bool) (vi : Value) (W : World) : Prop where
  box : W.cell? ⟨g, 3, none⟩ = some vm
  msg : W.cell? ⟨b, o, none⟩ = some (.bool q)
  out : W.cell? ⟨go, 3, none⟩ = some vi
theorem cell_chg {S : Nat → Prop} {W W' : World} (c : Chg S W W') {p : Addr} {v : Value} (h : W.cell? p = some v) (hS : ¬ S p.block) : W'.cell? p = some v := by
  have h1 := c.block p.block (World.block_lt_of_cell? _ _ h) hS
  unfold World.cell? at h ⊢
  rw [h1]
  exact h
theorem Mw.kept {g b o go : Nat} {vm : Value} {q : Bool} {vi : Value} {W W' : World} (h : Mw g b o go vm q vi W) (hb : Below W.heap.size W W') : Mw g b o go vm q vi W' :=
  ⟨by rw [hb.cell (World.block_lt_of_cell? _ _ h.box)]; exact h.box, by rw [hb.cell (World.block_lt_of_cell? _ _ h.msg)]; exact h.msg, by rw [hb.cell (World.block_lt_of_cell? _ _ h.out)]; exact h.out⟩
theorem Mw.chg {S : Nat → Prop} {g b o go : Nat} {vm : Value} {q : Bool} {vi : Value} {W W' : World} (h : Mw g b o go vm q vi W) (c : Chg S W W') (h1 : ¬ S g) (h2 : ¬ S b) (h3 : ¬ S go) : Mw g b o go vm q vi W' :=
  ⟨cell_chg c h.box h1, cell_chg c h.msg h2, cell_chg c h.out h3⟩
theorem take_tok (t : List Int) (T : List Value) (hT : T = t.map (Value.int .i64)) (k : Nat) (h : k < t.length) : T.take k ++ [Value.int .i64 (t.getD k 0)] = T.take (k + 1) := by
  subst hT
  rw [List.take_add_one, List.getElem?_map, List.getElem?_eq_getElem h]
  simp [h]
theorem take_who (p : Ptn) (B : List Value) (hB : B = p.ms.map fun m => Value.bool m.1) (i : Nat) (h : i < p.n) : B.take i ++ [Value.bool (p.ini i)] = B.take (i + 1) := by
  subst hB
  have h2 : i < p.ms.length := h
  rw [List.take_add_one, List.getElem?_map, List.getElem?_eq_getElem h2]
  simp [Ptn.ini, h2]
theorem take_ms (p : Ptn) (i : Nat) (h : i < p.n) : p.ms.take (i + 1) = p.ms.take i ++ [(p.ini i, p.tk i)] := by
  have h2 : i < p.ms.length := h
  have e : (p.ini i, p.tk i) = p.ms[i] := by simp [Ptn.ini, Ptn.tk, h2]
  rw [e, List.take_add_one, List.getElem?_eq_getElem h2]
  rfl
set_option maxRecDepth 100000 in
set_option maxHeartbeats 8000000 in
theorem model_any (p : Ptn) (vm : Value) (A : Array Value) (hA : A = (paC p vm).toArray) (hn4 : p.n ≤ 4097) (ht4 : ∀ k, (p.tk k).length ≤ 4097) (w : World) (h : MsR w vm p) :
    Calls Tryz.prog 12 #[.agg A] w fun e w' => ∃ vi vl, e = .returned (.agg (ptC p vi vl).toArray) ∧ PtR w' p vi vl ∧ Below w.heap.size w w' := by
  obtain ⟨tb, htb, hb0, hb1, hb2⟩ := info_parts infoBool
  obtain ⟨ts, hts, hs0, hs1, hs2⟩ := info_parts infoSl
  obtain ⟨tn, htn, hn0, hn1, hn2⟩ := info_parts infoI15
  obtain ⟨a, cap, rfl, hl, hm, -⟩ := id h.form
  obtain ⟨n, hn⟩ : ∃ n : Nat, n = p.n := ⟨_, rfl⟩
  rw [← hn] at h hl hA hn4
  have HN : Hid (n = p.n) := hn
  unfold maxLen at hm
  have HM : Hid (MsR w (.slice a n cap) p) := h
  have HT4 : Hid (∀ k, (p.tk k).length ≤ 4097) := ht4
  obtain ⟨SB, hSB⟩ : ∃ B : ByteArray, B = ⟨p.name.toArray⟩ := ⟨_, rfl⟩
  have HSB : Hid (SB = ⟨p.name.toArray⟩) := hSB
  obtain ⟨BB, hBB⟩ : ∃ B : List Value, B = p.ms.map fun m => Value.bool m.1 := ⟨_, rfl⟩
  have HBB : Hid _ := hBB
  clear h hn ht4 hBB
  go_enter Tryz.func12, Tryz.ntmps12
  go_wp2_with (refine wpList_box_blk rfl 25 _ rfl (paC p (.slice a n cap)) (by rw [← hA]; rfl) ?_)
  intro w1 r1 b1 s1
  go_wp2_with (refine wpList_alloc_blk rfl 36 rfl (ptC zeP (.slice none 0 0) (.slice none 0 0)) (allocPt _) ?_)
  intro w2 rz b2 s2
  replace r1 := r1.kept b2
  have hbw := stepB b1 b2
  have n1 : w.heap.size < w1.heap.size := by have := s1.out; omega
  have n2 : w1.heap.size < w2.heap.size := by have := s2.out; omega
  have c0 : w2.cell? ⟨w.heap.size, 0, none⟩ = some (.string SB) := by rw [hSB]; exact r1.cell 0
  have c1 : w2.cell? ⟨w.heap.size, 1, none⟩ = some (.bool p.ki) := r1.cell 1
  have c2 : w2.cell? ⟨w.heap.size, 2, none⟩ = some (.bool p.kr) := r1.cell 2
  clear b1 b2 s1 s2 hA hSB
  go_wp2_with (first
    | refine wpList_buildB rfl 36 #[(0, .tmp 8), (1, .tmp 11), (2, .tmp 14)] rfl _ (by go_simp; rfl) _ (build_md _ _ _ _) ?_
    | refine wpList_alloc_blk rfl 36 rfl (ptC zeP (.slice none 0 0) (.slice none 0 0)) (allocPt _) ?_)
  intro w3 ro b3 s3
  replace r1 := r1.kept b3
  replace rz := rz.kept b3
  replace hbw := stepB hbw b3
  have n3 : w2.heap.size < w3.heap.size := ro.lt
  clear b3 s3 c0 c1 c2
  go_wp2_with (refine wpList_store_part rfl 36 _ _ rfl rfl (ptC ⟨p.name, p.ki, p.kr, []⟩ (.slice none 0 0) (.slice none 0 0)) (by rw [HSB.out]; rfl) [] (ptC zeP (.slice none 0 0) (.slice none 0 0)) [] (ptC ⟨p.name, p.ki, p.kr, []⟩ (.slice none 0 0) (.slice none 0 0)) ro (whole15 _) (whole15 _) rfl rfl (ptInfo _ _ _) (ptC_all _ _ _ _ _ _ _) ?_)
  intro w4 ro4 hw4
  replace r1 := r1.wrote hw4 (by omega)
  replace rz := rz.wrote hw4 (by omega)
  replace hbw := hw4.below _ _ (by omega) hbw
  have hO0 : OwnG w (⟨4, 1, .slice none 0 0, 0, []⟩ :: ⟨63, 1, .slice none 0 0, 0, []⟩ :: []) w4 := (((OwnG.since hbw).nil 63 1).nil 4 1)
  have HR0 : Hid (RsT [] [] ⟨p.name, p.ki, p.kr, p.ms.take 0⟩) := ⟨rfl, (fun k hk => by cases hk), (fun q hq => by cases hq)⟩
  clear ro hw4 hbw
  go_wp2
  go_loopw [4] (fun iv wx => ∃ (i : Nat) (ai ar : Option Addr) (ci cr : Nat) (vs : List Value) (rest : List Rw), i ≤ n ∧ iv = .int .i64 (i : Int) ∧ Hid (RsT rest vs ⟨p.name, p.ki, p.kr, p.ms.take i⟩) ∧ OwnG w (⟨4, 1, .slice ai i ci, i, BB.take i⟩ :: ⟨63, 1, .slice ar i cr, i, vs⟩ :: rest) wx ∧
      BlkAt w2.heap.size 36 (ptC ⟨p.name, p.ki, p.kr, p.ms.take i⟩ (.slice ai i ci) (.slice ar i cr)) wx ∧ BlkAt w1.heap.size 36 (ptC zeP (.slice none 0 0) (.slice none 0 0)) wx ∧ BlkAt w.heap.size 25 (paC p (.slice a n cap)) wx) (fun iv _ => n - (intOf iv).toNat)
  case atStart => exact ⟨0, none, none, 0, 0, [], [], by omega, rfl, HR0, hO0, ro4, rz, r1⟩
  case round =>
    obtain ⟨i, ai, ar, ci, cr, vs, rest, hi, rfl, HRs, hOy, roy, rzy, rby⟩ := hrel
    clear hO0 HR0 ro4 rz r1
    have cb : wr.cell? ⟨w.heap.size, 3, none⟩ = some (.slice a n cap) := rby.cell 3
    by_cases hlt : i < n
    · have hd : decide ((i : Int) < (n : Int)) = true := decide_eq_true (by omega)
      have hiI : (i : Int) < (n : Int) := by omega
      obtain ⟨b, off, q, at', ct, t, ea, HQ, HTk, hct, HMsg⟩ : ∃ (b off : Nat) (q : Bool) (at' : Option Addr) (ct : Nat) (t : List Int), a = some ⟨b, off, none⟩ ∧ Hid (q = p.ini i) ∧ Hid (t = p.tk i) ∧ (t.length ≤ ct ∧ ct ≤ 9223372036854775807) ∧
          Hid (b < w.heap.size ∧ ∀ W, Below w.heap.size w W → W.cell? ⟨b, off + i * 2, none⟩ = some (.bool q) ∧ W.cell? ⟨b, off + i * 2 + 1, none⟩ = some (.slice at' t.length ct) ∧ ∀ k, k < t.length → ∃ bt ot, at' = some ⟨bt, ot, none⟩ ∧ W.cell? ⟨bt, ot + k, none⟩ = some (.int .i64 (t.getD k 0))) := by
        obtain ⟨a', cap', ev, -, -, h5⟩ := HM.out.form
        simp only [Value.slice.injEq] at ev
        obtain ⟨rfl, -, rfl⟩ := ev
        rcases h5 with h5 | ⟨b, off, rfl, hc⟩
        · have := HN.out
          omega
        obtain ⟨vt, g1, g2, g3⟩ := hc i (by rw [← HN.out]; exact hlt)
        rw [show off + 2 * i = off + i * 2 by omega] at g1
        rw [show off + (2 * i + 1) = off + i * 2 + 1 by omega] at g2
        obtain ⟨at', ct, rfl, hv2, hv3, -, h6⟩ := id g3
        unfold maxLen at hv3
        refine ⟨b, off, p.ini i, at', ct, p.tk i, rfl, rfl, rfl, ⟨hv2, by omega⟩, World.block_lt_of_cell? w _ g1, fun W hW => ⟨?_, ?_, fun k hk => ?_⟩⟩
        · rw [hW.cell (World.block_lt_of_cell? _ _ g1)]
          exact g1
        · rw [hW.cell (World.block_lt_of_cell? _ _ g2)]
          exact g2
        · rcases h6 with h6 | ⟨bt, ot, e6, hct⟩
          · rw [h6] at hk
            cases hk
          · refine ⟨bt, ot, e6, ?_⟩
            have := hct k hk
            rw [hW.cell (World.block_lt_of_cell? _ _ this)]
            exact this
      subst ea
      obtain ⟨T, hT⟩ : ∃ T : List Value, T = t.map (Value.int .i64) := ⟨_, rfl⟩
      have HT : Hid _ := hT
      have HTl : Hid (T.length = t.length) := by show _ = _; rw [hT, List.length_map]
      clear hT
      have htl : t.length ≤ 4097 := by rw [HTk.out]; exact HT4.out i
      have hct1 := hct.1
      have hct2 := hct.2
      have m2 := (HMsg.out.2 wr hOy.below).2.1
      clear hct
      go_wp2
      go_loopw [5, 6] (fun lv kv wx => ∃ k : Nat, k ≤ t.length ∧ kv = .int .i64 (k : Int) ∧ OwnG w (⟨3, 1, lv, k, T.take k⟩ :: ⟨4, 1, .slice ai i ci, i, BB.take i⟩ :: ⟨63, 1, .slice ar i cr, i, vs⟩ :: rest) wx ∧ BlkAt w2.heap.size 36 (ptC ⟨p.name, p.ki, p.kr, p.ms.take i⟩ (.slice ai i ci) (.slice ar i cr)) wx ∧ BlkAt w1.heap.size 36 (ptC zeP (.slice none 0 0) (.slice none 0 0)) wx ∧ BlkAt w.heap.size 25 (paC p (.slice (some ⟨b, off, none⟩) n cap)) wx) (fun _ kv _ => t.length - (intOf kv).toNat)
      case atStart => exact ⟨0, by omega, rfl, hOy.nil 3 1, roy, rzy, rby⟩
      case round =>
        obtain ⟨k, hk, rfl, hOx, rox, rzx, rbx⟩ := hrel
        clear hOy roy rzy rby cb m2
        have cb : wr.cell? ⟨w.heap.size, 3, none⟩ = some (.slice (some ⟨b, off, none⟩) n cap) := rbx.cell 3
        obtain ⟨m1, m2, m3⟩ := HMsg.out.2 wr hOx.below
        by_cases hkl : k < t.length
        · have hd2 : decide ((k : Int) < (t.length : Int)) = true := decide_eq_true (by omega)
          have hkI : (k : Int) < (t.length : Int) := by omega
          obtain ⟨bt, ot, rfl, ck⟩ := m3 k hkl
          have HTt := take_tok t T HT.out k hkl
          have HTT : Hid _ := HTt
          generalize t.getD k 0 = tk at ck HTT
          clear m1 m3 HTt
          have hrow := hOx.rows _ (List.mem_cons_self ..)
          go_wp2_with (at_builtin; go_must (refine wpList_append_E rfl _ _ 63 rfl 3 tn _ 1 8 Tryz.underlying63 htn hn0 hn1 hn2 rfl (by decide) _ k (T.take k) rfl (hOx.kept (growB _)) ⟨wr.heap.size, 0, none⟩ 1 1 [.int .i64 tk] rfl rfl (news1 _ rfl) (by intro u hu; simp at hu; subst hu; rfl) (by unfold maxLen; omega) (by omega) ?_))
          intro v6 w6 hO6 hC6
          have ro6 := (rox.kept (growB (.cells #[.int .i64 tk] 3))).chg hC6 (fun e => row_not_blk hrow rox (show (3 : TypeId) ≠ 36 by decide) e.symm)
          have rz6 := (rzx.kept (growB (.cells #[.int .i64 tk] 3))).chg hC6 (fun e => row_not_blk hrow rzx (show (3 : TypeId) ≠ 36 by decide) e.symm)
          have rb6 := (rbx.kept (growB (.cells #[.int .i64 tk] 3))).chg hC6 (fun e => row_not_blk hrow rbx (show (3 : TypeId) ≠ 25 by decide) e.symm)
          rw [HTT.out] at hO6
          have HO6 : Hid _ := hO6
          clear hO6 hC6 hOx rox rzx rbx hrow cb ck
          go_wp2
          go_roundw
          case rel => exact ⟨k + 1, by omega, by go_num, HO6.out, ro6, rz6, rb6⟩
          case measure => simp [intOf] <;> omega
        · have hd2 : decide ((k : Int) < (t.length : Int)) = false := decide_eq_false (by omega)
          have hkI : (t.length : Int) ≤ (k : Int) := by omega
          have hke : k = t.length := by omega
          subst hke
          rw [List.take_of_length_le (by rw [HTl.out]; exact Nat.le_refl _)] at hOx
          have hru : RdC wr u5 T := hOx.rdC rfl
          obtain ⟨al, cl, ev, -, hl3, -, -⟩ := id hru
          rw [HTl.out] at ev
          subst ev
          unfold maxLen at hl3
          have hrowB := hOx.rows ⟨4, 1, .slice ai i ci, i, BB.take i⟩ (List.mem_cons_of_mem _ (List.mem_cons_self ..))
          have hOd := hOx.swap.drew
          have hS : Mw w.heap.size b (off + i * 2) w2.heap.size (.slice (some ⟨b, off, none⟩) n cap) q (.slice ai i ci) wr.drew := ⟨cb, m1, rox.cell 3⟩
          have HFr : Hid (¬ some w.heap.size = (Value.slice ai i ci).ownBlock ∧ ¬ some b = (Value.slice ai i ci).ownBlock ∧ ¬ some w2.heap.size = (Value.slice ai i ci).ownBlock ∧ ¬ some w1.heap.size = (Value.slice ai i ci).ownBlock) :=
            ⟨fun e => row_not_blk hrowB rbx (show (4 : TypeId) ≠ 25 by decide) e.symm, (fun e => by have := (hrowB.lt b e.symm).1; have := HMsg.out.1; omega), fun e => row_not_blk hrowB rox (show (4 : TypeId) ≠ 36 by decide) e.symm, fun e => row_not_blk hrowB rzx (show (4 : TypeId) ≠ 36 by decide) e.symm⟩
          have HBq : Hid (BB.take i ++ [Value.bool q] = BB.take (i + 1)) := by show _ = _; rw [HQ.out]; exact take_who p BB HBB.out i (by rw [← HN.out]; exact hlt)
          have HBl : Hid ((BB.take (i + 1)).length = i + 1) := by show _ = _; rw [List.length_take, HBB.out, List.length_map]; have := HN.out; unfold Ptn.n at this; omega
          obtain ⟨j, hj⟩ : ∃ j : Nat, j = i + 1 := ⟨_, rfl⟩
          have HJ : Hid (j = i + 1) := hj
          rw [← hj] at HBq HBl
          clear hj hrowB m3 hru hkl hk
          go_wp2_with fail
          refine wpU_begin 11 (Mw w.heap.size b (off + i * 2) w2.heap.size (.slice (some ⟨b, off, none⟩) n cap) q (.slice ai i ci)) (by kernel_rfl) ?_
          refine wpU_take (hS := hS) (i := 0) (oi := { dst := some 46, op := Op.fieldAddr 36 (Operand.tmp 3) 3, type := 0, pos := "law.go:26", after := #[], guard := none }) (v := ?_) rfl (by decide) (by kernel_rfl) (by kernel_rfl) (by kernel_rfl) (by kernel_rfl) (by rfl) ?_ ?_
          rotate_left
          · intro W hW; first | (go_simp; done) | (go_simp; with_reducible rfl)
          try simp only [Act.put, List.setIfInBounds_toArray, List.set_cons_zero, List.set_cons_succ]
          refine wpU_take (hS := hS) (i := 1) (oi := { dst := some 47, op := Op.load 33 (Operand.tmp 46), type := 33, pos := "law.go:26", after := #[{ on := 0, ground := Ground.data }], guard := none }) (v := ?_) rfl (by decide) (by kernel_rfl) (by kernel_rfl) (by kernel_rfl) (by kernel_rfl) (by rfl) ?_ ?_
          rotate_left
          · intro W hW; have cW := hW.out; first | (go_simp; done) | (go_simp; with_reducible rfl)
          try simp only [Act.put, List.setIfInBounds_toArray, List.set_cons_zero, List.set_cons_succ]
          refine wpU_take (hS := hS) (i := 2) (oi := { dst := some 48, op := Op.fieldAddr 25 (Operand.tmp 1) 2, type := 0, pos := "law.go:26", after := #[], guard := none }) (v := ?_) rfl (by decide) (by kernel_rfl) (by kernel_rfl) (by kernel_rfl) (by kernel_rfl) (by rfl) ?_ ?_
          rotate_left
          · intro W hW; first | (go_simp; done) | (go_simp; with_reducible rfl)
          try simp only [Act.put, List.setIfInBounds_toArray, List.set_cons_zero, List.set_cons_succ]
          refine wpU_take (hS := hS) (i := 3) (oi := { dst := some 49, op := Op.load 23 (Operand.tmp 48), type := 23, pos := "law.go:26", after := #[{ on := 2, ground := Ground.data }], guard := none }) (v := ?_) rfl (by decide) (by kernel_rfl) (by kernel_rfl) (by kernel_rfl) (by kernel_rfl) (by rfl) ?_ ?_
          rotate_left
          · intro W hW; have cW := hW.box; first | (go_simp; done) | (go_simp; with_reducible rfl)
          try simp only [Act.put, List.setIfInBounds_toArray, List.set_cons_zero, List.set_cons_succ]
          refine wpU_take (hS := hS) (i := 4) (oi := { dst := some 50, op := Op.move (Operand.tmp 4), type := 3, pos := "law.go:26", after := #[], guard := none }) (v := ?_) rfl (by decide) (by kernel_rfl) (by kernel_rfl) (by kernel_rfl) (by kernel_rfl) (by rfl) ?_ ?_
          rotate_left
          · intro W hW; first | (go_simp; done) | (go_simp; with_reducible rfl)
          try simp only [Act.put, List.setIfInBounds_toArray, List.set_cons_zero, List.set_cons_succ]
          refine wpU_take (hS := hS) (i := 5) (oi := { dst := some 51, op := Op.indexAddr 23 (Operand.tmp 49) (Operand.tmp 50), type := 0, pos := "law.go:26", after := #[{ on := 3, ground := Ground.data }, { on := 4, ground := Ground.data }], guard := none }) (v := ?_) rfl (by decide) (by kernel_rfl) (by kernel_rfl) (by kernel_rfl) (by kernel_rfl) (by rfl) ?_ ?_
          rotate_left
          · intro W hW; first | (go_simp; done) | (go_simp; with_reducible rfl)
          try simp only [Act.put, List.setIfInBounds_toArray, List.set_cons_zero, List.set_cons_succ]
          refine wpU_take (hS := hS) (i := 6) (oi := { dst := some 52, op := Op.fieldAddr 48 (Operand.tmp 51) 0, type := 0, pos := "law.go:26", after := #[{ on := 5, ground := Ground.data }], guard := none }) (v := ?_) rfl (by decide) (by kernel_rfl) (by kernel_rfl) (by kernel_rfl) (by kernel_rfl) (by rfl) ?_ ?_
          rotate_left
          · intro W hW; first | (go_simp; done) | (go_simp; with_reducible rfl)
          try simp only [Act.put, List.setIfInBounds_toArray, List.set_cons_zero, List.set_cons_succ]
          refine wpU_take (hS := hS) (i := 7) (oi := { dst := some 53, op := Op.load 4 (Operand.tmp 52), type := 4, pos := "law.go:26", after := #[{ on := 6, ground := Ground.data }], guard := none }) (v := ?_) rfl (by decide) (by kernel_rfl) (by kernel_rfl) (by kernel_rfl) (by kernel_rfl) (by rfl) ?_ ?_
          rotate_left
          · intro W hW; have cW := hW.msg; first | (go_simp; done) | (go_simp; with_reducible rfl)
          try simp only [Act.put, List.setIfInBounds_toArray, List.set_cons_zero, List.set_cons_succ]
          refine wpU_do (i := 8) (o := { dst := some 54, op := Op.buildSlice 33 1 #[(0, Operand.tmp 53)], type := 33, pos := "law.go:26", after := #[{ on := 7, ground := Ground.data }], guard := none }) (by kernel_rfl) rfl (by rfl) fun K hK => ?_
          go_simp
          refine hK.out _ _ (hS.kept (growB _)) ?_
          clear hK K
          replace hS := hS.kept (growB (.cells #[.bool q] 4))
          try simp only [Act.put, List.setIfInBounds_toArray, List.set_cons_zero, List.set_cons_succ]
          refine wpU_do (i := 9) (o := { dst := some 55, op := Op.call { callee := Callee.builtin Builtin.append, args := #[Operand.tmp 47, Operand.tmp 54], argTypes := #[33, 33] }, type := 33, pos := "law.go:26", after := #[{ on := 1, ground := Ground.data }, { on := 8, ground := Ground.data }], guard := none }) (by kernel_rfl) rfl (by rfl) fun K hK => ?_
          refine wp_append_E _ _ 33 rfl 4 tb _ 1 1 Tryz.underlying33 htb hb0 hb1 hb2 rfl (by decide) _ i (BB.take i) rfl (hOd.kept (growB _)) ⟨wr.heap.size, 0, none⟩ 1 1 [.bool q] rfl rfl (news1 _ rfl) (by intro u hu; simp at hu; subst hu; rfl) (by unfold maxLen; omega) (by omega) ?_
          intro vi6 w6 hO6 hC6
          rw [HBq.out] at hO6
          have hri : RdC w6 vi6 (BB.take j) := hO6.rdC rfl
          obtain ⟨ai6, ci6, ev, -, hc6, -, -⟩ := id hri
          rw [HBl.out] at ev
          subst ev
          rw [← HJ.out] at hO6
          have ro6 := (rox.drew.kept (growB (.cells #[.bool q] 4))).chg hC6 HFr.out.2.2.1
          have rz6 := (rzx.drew.kept (growB (.cells #[.bool q] 4))).chg hC6 HFr.out.2.2.2
          have rb6 := (rbx.drew.kept (growB (.cells #[.bool q] 4))).chg hC6 HFr.out.1
          have c3b : w6.cell? ⟨w2.heap.size, 3, none⟩ = some (.slice ai i ci) := ro6.cell 3
          have f3b := ro6.free 3
          refine hK.out _ _ (hS.chg hC6 HFr.out.1 HFr.out.2.1 HFr.out.2.2.1) ?_
          clear hK K
          replace hS := hS.chg hC6 HFr.out.1 HFr.out.2.1 HFr.out.2.2.1
          try simp only [Act.put, List.setIfInBounds_toArray, List.set_cons_zero, List.set_cons_succ]
          refine wpU_take (hS := hS) (i := 10) (oi := { dst := some 56, op := Op.fieldAddr 36 (Operand.tmp 3) 3, type := 0, pos := "law.go:26", after := #[{ on := 0, ground := Ground.phase }, { on := 1, ground := Ground.phase }, { on := 2, ground := Ground.phase }, { on := 3, ground := Ground.phase }, { on := 4, ground := Ground.phase }, { on := 5, ground := Ground.phase }, { on := 6, ground := Ground.phase }, { on := 7, ground := Ground.phase }, { on := 8, ground := Ground.phase }, { on := 9, ground := Ground.phase }], guard := none }) (v := ?_) rfl (by decide) (by kernel_rfl) (by kernel_rfl) (by kernel_rfl) (by kernel_rfl) (by rfl) ?_ ?_
          rotate_left
          · intro W hW; first | (go_simp; done) | (go_simp; with_reducible rfl)
          try simp only [Act.put, List.setIfInBounds_toArray, List.set_cons_zero, List.set_cons_succ]
          refine wpU_last (o := { dst := none, op := Op.store 33 (Operand.tmp 56) (Operand.tmp 55), type := 0, pos := "law.go:26", after := #[{ on := 10, ground := Ground.data }, { on := 9, ground := Ground.data }, { on := 9, ground := Ground.chain }, { on := 0, ground := Ground.phase }, { on := 1, ground := Ground.phase }, { on := 2, ground := Ground.phase }, { on := 3, ground := Ground.phase }, { on := 4, ground := Ground.phase }, { on := 5, ground := Ground.phase }, { on := 6, ground := Ground.phase }, { on := 7, ground := Ground.phase }, { on := 8, ground := Ground.phase }, { on := 9, ground := Ground.phase }], guard := none }) (by kernel_rfl) (by kernel_rfl) rfl (by rfl) fun K hK => ?_
          go_simp
          refine hK.out _ _ ?_
          clear hK K
          try simp only [Act.put, List.setIfInBounds_toArray, List.set_cons_zero, List.set_cons_succ]
          have ro7 : BlkAt w2.heap.size 36 (ptC ⟨p.name, p.ki, p.kr, p.ms.take i⟩ (.slice ai6 j ci6) (.slice ar i cr)) (w6.setCell ⟨w2.heap.size, 3, none⟩ (.slice ai6 j ci6)) := ro6.set 3 (.slice ai6 j ci6)
          have hw7 := Wrote.set w2.heap.size 3 w6 (.slice ai6 j ci6)
          have rz7 := rz6.wrote hw7 (by omega)
          have rb7 := rb6.wrote hw7 (by omega)
          have hO7 := (hO6.wrote hw7 (by omega) (rows_far hO6 ro6 (kinds_far HRs.out (L := [⟨4, 1, .slice ai6 j ci6, j, BB.take j⟩, ⟨3, 1, .slice al t.length cl, t.length, T⟩, ⟨63, 1, .slice ar i cr, i, vs⟩]) (by intro r hr; simp only [List.mem_cons, List.not_mem_nil, or_false] at hr; rcases hr with rfl | rfl | rfl <;> simp) 36 (by decide) (by decide) (by decide)))).third
          have HSz6 : Hid (w6.heap.size = (w6.setCell ⟨w2.heap.size, 3, none⟩ (.slice ai6 j ci6)).heap.size) := by show _ = _; simp
          have c4 : (w6.setCell ⟨w2.heap.size, 3, none⟩ (.slice ai6 j ci6)).cell? ⟨w2.heap.size, 4, none⟩ = some (.slice ar i cr) := ro7.cell 4
          have hrowR := hO7.rows _ (List.mem_cons_self ..)
          have hVl : vs.length = i := by
            have := HRs.out.len
            rw [this]
            show (p.ms.take i).length = i
            rw [List.length_take]
            have := HN.out
            unfold Ptn.n at this
            omega
          clear rox rzx rbx hOx hOd hS hC6 hO6 ro6 rz6 rb6 hri hw7 cb m1 m2 c3b f3b HFr hd2 hkI
          go_wp2_with (first | (refine wpList_buildS rfl 34 _ rfl (.slice al t.length cl) rfl 63 w6.heap.size HSz6.out.symm (build_sl _ _ _ _) ?_; simp only [Act.put, List.setIfInBounds_toArray, List.set_cons_zero, List.set_cons_succ]) | (at_builtin; go_must (refine wpList_append_E rfl _ _ 34 rfl 63 ts _ 1 24 Tryz.underlying34 hts hs0 hs1 hs2 rfl (by decide) _ i vs rfl (hO7.kept (growB _)) ⟨w6.heap.size, 0, none⟩ 1 1 [.slice al t.length cl] rfl rfl (news1 _ HSz6.out) (by intro u hu; simp at hu; subst hu; rfl) (by unfold maxLen; omega) (by omega) ?_)))
          intro vr8 w8 hO8 hC8
          have ro8 := (ro7.kept (growB (.cells #[.slice al t.length cl] 63))).chg hC8 (fun e => row_not_blk hrowR ro7 (show (63 : TypeId) ≠ 36 by decide) e.symm)
          have rz8 := (rz7.kept (growB (.cells #[.slice al t.length cl] 63))).chg hC8 (fun e => row_not_blk hrowR rz7 (show (63 : TypeId) ≠ 36 by decide) e.symm)
          have rb8 := (rb7.kept (growB (.cells #[.slice al t.length cl] 63))).chg hC8 (fun e => row_not_blk hrowR rb7 (show (63 : TypeId) ≠ 25 by decide) e.symm)
          have hrr : RdC w8 vr8 (vs ++ [Value.slice al t.length cl]) := hO8.rdC rfl
          obtain ⟨ar8, cr8, ev, -, -, -, -⟩ := id hrr
          rw [show (vs ++ [Value.slice al t.length cl]).length = j by have := HJ.out; simp; omega] at ev
          subst ev
          rw [← HJ.out] at hO8
          have c4b : w8.cell? ⟨w2.heap.size, 4, none⟩ = some (.slice ar i cr) := ro8.cell 4
          have f4b := ro8.free 4
          have HMs : Hid (p.ms.take j = p.ms.take i ++ [(q, t)]) := by show _ = _; rw [HJ.out, HQ.out, HTk.out]; exact take_ms p i (by rw [← HN.out]; exact hlt)
          have RO9 : Hid (BlkAt w2.heap.size 36 (ptC ⟨p.name, p.ki, p.kr, p.ms.take j⟩ (.slice ai6 j ci6) (.slice ar8 j cr8)) (w8.setCell ⟨w2.heap.size, 4, none⟩ (.slice ar8 j cr8))) := ro8.set 4 (.slice ar8 j cr8)
          have hw9 := Wrote.set w2.heap.size 4 w8 (.slice ar8 j cr8)
          have RZ9 : Hid (BlkAt w1.heap.size 36 (ptC zeP (.slice none 0 0) (.slice none 0 0)) (w8.setCell ⟨w2.heap.size, 4, none⟩ (.slice ar8 j cr8))) := rz8.wrote hw9 (by omega)
          have RB9 : Hid (BlkAt w.heap.size 25 (paC p (.slice (some ⟨b, off, none⟩) n cap)) (w8.setCell ⟨w2.heap.size, 4, none⟩ (.slice ar8 j cr8))) := rb8.wrote hw9 (by omega)
          have HO9 : Hid (OwnG w (⟨4, 1, .slice ai6 j ci6, j, BB.take j⟩ :: ⟨63, 1, .slice ar8 j cr8, j, vs ++ [Value.slice al t.length cl]⟩ :: ⟨3, 1, .slice al t.length cl, t.length, T⟩ :: rest) (w8.setCell ⟨w2.heap.size, 4, none⟩ (.slice ar8 j cr8))) :=
            (hO8.wrote hw9 (by omega) (rows_far hO8 ro8 (kinds_far HRs.out (L := [⟨63, 1, .slice ar8 j cr8, j, vs ++ [Value.slice al t.length cl]⟩, ⟨4, 1, .slice ai6 j ci6, j, BB.take j⟩, ⟨3, 1, .slice al t.length cl, t.length, T⟩]) (by intro r hr; simp only [List.mem_cons, List.not_mem_nil, or_false] at hr; rcases hr with rfl | rfl | rfl <;> simp) 36 (by decide) (by decide) (by decide)))).swap
          have HR9 : Hid (RsT (⟨3, 1, .slice al t.length cl, t.length, T⟩ :: rest) (vs ++ [Value.slice al t.length cl]) ⟨p.name, p.ki, p.kr, p.ms.take j⟩) := by
            show RsT _ _ _
            rw [HMs.out, HT.out]
            exact HRs.out.next q t (.slice al t.length cl)
          clear ro7 rz7 rb7 hO7 hC8 hO8 ro8 rz8 rb8 hrr hw9 c4 hrowR
          go_wp2
          go_roundw
          case rel => exact ⟨j, ai6, ar8, ci6, cr8, _, _, by have := HJ.out; omega, (by have := HJ.out; subst this; go_num), HR9, HO9.out, RO9.out, RZ9.out, RB9.out⟩
          case measure => simp [intOf] <;> omega
    · have hd : decide ((i : Int) < (n : Int)) = false := decide_eq_false (by omega)
      have hiI : (n : Int) ≤ (i : Int) := by omega
      have hie : i = n := by omega
      have HMe : Hid (p.ms.take i = p.ms) := by show _ = _; rw [List.take_of_length_le (by have := HN.out; unfold Ptn.n at this; omega)]
      have HBe : Hid (BB.take i = p.ms.map fun m => Value.bool m.1) := by show _ = _; rw [List.take_of_length_le (by rw [HBB.out, List.length_map]; have := HN.out; unfold Ptn.n at this; omega), HBB.out]
      clear hie
      go_wp2_with (first | refine wpList_load_part rfl 36 _ rfl rfl [] (ptC ⟨p.name, p.ki, p.kr, p.ms.take i⟩ (.slice ai i ci) (.slice ar i cr)) [] roy (whole15 _) rfl Tryz.underlying36 rfl (ptInfo _ _ _) ?_ | (refine wpList_store_part rfl 36 _ _ rfl rfl (ptC ⟨p.name, p.ki, p.kr, p.ms.take i⟩ (.slice ai i ci) (.slice ar i cr)) rfl [] (ptC zeP (.slice none 0 0) (.slice none 0 0)) [] (ptC ⟨p.name, p.ki, p.kr, p.ms.take i⟩ (.slice ai i ci) (.slice ar i cr)) rzy (whole15 _) (whole15 _) rfl rfl (ptInfo _ _ _) (ptC_all _ _ _ _ _ _ _) ?_; intro w7 r7 hw7))
      refine bodyPost_blk rfl rfl rfl r7 Tryz.underlying36 rfl (ptInfo _ _ _) ?_
      have hO7 := hOy.wrote hw7 (by omega) (rows_far hOy rzy (kinds_far HRs.out (L := [⟨4, 1, .slice ai i ci, i, BB.take i⟩, ⟨63, 1, .slice ar i cr, i, vs⟩]) (by intro r hr; simp only [List.mem_cons, List.not_mem_nil, or_false] at hr; rcases hr with rfl | rfl <;> simp) 36 (by decide) (by decide) (by decide)))
      refine ⟨.slice ai i ci, .slice ar i cr, rfl, ⟨?_, vs, ?_, ?_, fun k hk => ?_⟩, hO7.below⟩
      · rw [← HBe.out]
        exact hO7.rdC rfl
      · exact RdC.of_own (hO7.rows ⟨63, 1, .slice ar i cr, i, vs⟩ (List.mem_cons_of_mem _ (List.mem_cons_self ..)))
      · rw [HRs.out.len]
        show (p.ms.take i).length = p.ms.length
        rw [HMe.out]
      · have h3 := RdI.of_row (hO7.rows _ (List.mem_cons_of_mem _ (List.mem_cons_of_mem _ (HRs.out.toks k hk))))
        have e : Ptn.tk ⟨p.name, p.ki, p.kr, p.ms.take i⟩ k = p.tk k := by unfold Ptn.tk; rw [show (⟨p.name, p.ki, p.kr, p.ms.take i⟩ : Ptn).ms = p.ms from HMe.out]
        rw [e] at h3
        exact h3
end Go.Proofs.YtpoibhhijidobabGreatDoor

/- What is said in a pattern, one token behind the other, and what course that takes: plain mathematics. No program's text is named. -/
namespace Go.Proofs.YtpoibhhijidobabGreatDoor
set_option linter.unusedSimpArgs false
set_option linter.unusedVariables false

/-- What is said: who, and which token. -/
abbrev Say := Bool × Int
def syR (p : Ptn) (i j : Nat) : List Say := ((p.tk i).take j).map fun t => (p.ini i, t)
def syS (p : Ptn) : Nat → List Say
  | 0 => []
  | i + 1 => syS p i ++ syR p i (p.tk i).length
def syL (p : Ptn) : List Say := syS p p.n
theorem syR_zero (p : Ptn) (i : Nat) : syR p i 0 = [] := rfl
theorem syR_next (p : Ptn) (i j : Nat) (h : j < (p.tk i).length) : syR p i (j + 1) = syR p i j ++ [(p.ini i, (p.tk i).getD j 0)] := by
  unfold syR
  rw [List.take_add_one, List.getElem?_eq_getElem h, List.map_append]
  simp [h]
theorem syR_len (p : Ptn) (i j : Nat) : (syR p i j).length ≤ j := by
  unfold syR
  rw [List.length_map, List.length_take]
  omega
theorem syR_length (p : Ptn) (i j : Nat) (h : j ≤ (p.tk i).length) : (syR p i j).length = j := by
  unfold syR
  rw [List.length_map, List.length_take]
  omega
theorem syS_len {p : Ptn} (h : PtS p) : ∀ i, i ≤ p.n → (syS p i).length ≤ 12 * i
  | 0, _ => Nat.le_refl _
  | i + 1, hi => by
    have h1 := syS_len h i (by omega)
    have h2 := syR_len p i (p.tk i).length
    have h3 := h.t i (by omega)
    unfold syS
    rw [List.length_append]
    omega
theorem syL_len {p : Ptn} (h : PtS p) : (syL p).length ≤ 96 := by
  have := syS_len h p.n (Nat.le_refl _)
  have := h.n
  unfold syL
  omega
/-- Tokens that are secrets: of the curve, of the KEM, of both sides. -/
def cvB (t : Int) : Bool := decide (t = 3) || decide (t = 4) || decide (t = 5) || decide (t = 6)
def kmB (t : Int) : Bool := decide (t = 9) || decide (t = 10)
def pkB (t : Int) : Bool := decide (t = 7)
def scB (t : Int) : Bool := cvB t || kmB t || pkB t
/-- Are two one secret that may be there once at most? -/
def rpB (s o : Say) : Bool := decide (s.2 = o.2) && (decide (s.1 = o.1) || !kmB s.2)
/-- How far a pattern has been gone through: keys and secrets. -/
def adC (c : List Say × List Say) (s : Say) : List Say × List Say := if scB s.2 then (c.1, c.2 ++ [s]) else (c.1 ++ [s], c.2)
def lkB (ks : List Say) (k : Say) : Bool := !ks.any fun q => q == k
def tkS (c : List Say × List Say) (s : Say) : Bool :=
  if scB s.2 = false then lkB c.1 s
  else if c.2.any (rpB s) then false
  else if pkB s.2 then !lkB c.1 (s.1, 1) || !lkB c.1 (s.1, 8)
  else !(scK s.2 (!s.1)).any (lkB c.1)
/-- The keys that are known ahead of the first token. -/
def knL (p : Ptn) : List Say := (if p.ki then [(true, 2)] else []) ++ (if p.kr then [(false, 2)] else [])
def crS (c : List Say × List Say) (l : List Say) : List Say × List Say := l.foldl adC c
/-- May each token be said where it stands? -/
def ioB (p : Ptn) : Bool := (List.range (syL p).length).all fun j => tkS (crS (knL p, []) ((syL p).take j)) ((syL p).getD j (false, 0))
theorem crS_eq (l : List Say) : ∀ c, crS c l = (c.1 ++ l.filter (fun s => !scB s.2), c.2 ++ l.filter fun s => scB s.2) := by
  induction l with
  | nil => intro c; simp [crS]
  | cons s l ih =>
    intro c
    show crS (adC c s) l = _
    rw [ih]
    unfold adC
    cases h : scB s.2 <;> simp [h]
theorem crS_next (c : List Say × List Say) (l : List Say) (j : Nat) (h : j < l.length) : crS c (l.take (j + 1)) = adC (crS c (l.take j)) (l.getD j (false, 0)) := by
  have e : l.take (j + 1) = l.take j ++ [l.getD j (false, 0)] := by
    rw [List.take_add_one, List.getElem?_eq_getElem h]
    simp [h]
  rw [e]
  unfold crS
  rw [List.foldl_append]
  rfl
theorem crS_len (l : List Say) (ks : List Say) : (crS (ks, []) l).1.length + (crS (ks, []) l).2.length = ks.length + l.length := by
  rw [crS_eq]
  simp
  have : ∀ l : List Say, (l.filter (fun s => !scB s.2)).length + (l.filter fun s => scB s.2).length = l.length := by
    intro l
    induction l with
    | nil => rfl
    | cons s l ih => cases h : scB s.2 <;> simp [h] <;> omega
  have := this l
  omega
end Go.Proofs.YtpoibhhijidobabGreatDoor

/- What is said in a pattern: contracts of package pattern, third part. -/
namespace Go.Proofs.YtpoibhhijidobabGreatDoor
open Go.ChangeShapes Go.WideShapes Go.ChangeAt Go.RowKit
set_option linter.unusedSimpArgs false
set_option linter.unusedVariables false

theorem infoSay : (Tryz.prog.info? 69).map (fun i => (i.zero, i.size, i.bytes)) = some (some (.agg #[.bool false, .int .i64 0]), 2, 16) := by kernel_rfl
theorem infoSay2 : (Tryz.prog.info? 69).map (·.size) = some 2 := by kernel_rfl
theorem infoKey : (Tryz.prog.info? 76).map (fun i => (i.zero, i.size, i.bytes)) = some (some (.agg #[.bool false, .int .i64 0]), 2, 16) := by kernel_rfl
theorem infoKey2 : (Tryz.prog.info? 76).map (·.size) = some 2 := by kernel_rfl
theorem kyC_next (l : List Say) (b : Bool) (t : Int) : kyC l ++ [.bool b, .int .i64 t] = kyC (l ++ [(b, t)]) := by simp [kyC]
theorem oneSay (b : Bool) (t : Int) : ∀ u ∈ ([.bool b, .int .i64 t] : List Value), u.oneCell' = true := by
  intro v hv
  simp only [List.mem_cons, List.not_mem_nil, or_false] at hv
  rcases hv with rfl | rfl <;> rfl
theorem oneSayA (b : Bool) (t : Int) : ([.bool b, .int .i64 t] : List Value).toArray.all (·.oneCell') = true := all_oneCell_toArray (oneSay b t)
theorem OwnG.chgRow {w0 w w' : World} {p : Rw} {L : List Rw} (h : OwnG w0 (p :: L) w) {g : Nat} {ty : TypeId} {cs : List Value} (hb : BlkAt g ty cs w) (hne : p.ty ≠ ty) (c : Chg (fun b => some b = p.v.ownBlock) w w') : BlkAt g ty cs w' :=
  hb.chg c fun e => row_not_blk (h.rows p (List.mem_cons_self ..)) hb hne e.symm
theorem KyR.of_rdE {w : World} {v : Value} {l : List (Bool × Int)} (h : RdE w v 2 l.length (kyC l)) : KyR w v l := by
  obtain ⟨-, a, cap, rfl, h1, h2, h3⟩ := id h
  refine ⟨a, cap, rfl, h1, h2, ?_⟩
  by_cases h0 : l = []
  · exact .inl h0
  · right
    have hl : 0 < l.length := List.length_pos_iff.2 h0
    obtain ⟨b, off, e, -, -⟩ := h.keyAt 0 hl
    refine ⟨b, off, e, fun k hk => ?_⟩
    obtain ⟨b', off', e', h4, h5⟩ := h.keyAt k hk
    rw [e] at e'
    simp only [Option.some.injEq, Addr.mk.injEq, and_true] at e'
    obtain ⟨rfl, rfl⟩ := e'
    exact ⟨h4, h5⟩
theorem OwnG.ky {w0 w : World} {ty : TypeId} {v : Value} {n : Nat} {l : List (Bool × Int)} {L : List Rw} (h : OwnG w0 (⟨ty, 2, v, n, kyC l⟩ :: L) w) (hn : n = l.length) : KyR w v l := by
  subst hn
  exact KyR.of_rdE (RdE.of_own (h.rows _ (List.mem_cons_self ..)))
theorem ky_len15 {w : World} {v : Value} {l : List (Bool × Int)} (h : KyR w v l) : ∃ a c, v = .slice a l.length c ∧ l.length ≤ c ∧ c ≤ maxLen := by
  obtain ⟨a, c, e, h1, h2, -⟩ := h
  exact ⟨a, c, e, h1, h2⟩
theorem KyR.at {w : World} {a : Option Addr} {n c : Nat} {l : List (Bool × Int)} (h : KyR w (.slice a n c) l) {k : Nat} (hk : k < l.length) : ∃ b off, a = some ⟨b, off, none⟩ ∧ w.cell? ⟨b, off + k * 2, none⟩ = some (.bool (l.getD k (false, 0)).1) ∧ w.cell? ⟨b, off + k * 2 + 1, none⟩ = some (.int .i64 (l.getD k (false, 0)).2) := by
  obtain ⟨a', cap', ev, -, -, h5⟩ := h
  simp only [Value.slice.injEq] at ev
  obtain ⟨rfl, -, rfl⟩ := ev
  rcases h5 with h5 | ⟨b, off, rfl, hc⟩
  · rw [h5] at hk
    cases hk
  obtain ⟨g1, g2⟩ := hc k hk
  rw [show off + (2 * k + 1) = off + k * 2 + 1 by omega] at g2
  rw [show off + 2 * k = off + k * 2 by omega] at g1
  refine ⟨b, off, rfl, ?_, ?_⟩
  · rw [g1]; simp [hk]
  · rw [g2]; simp [hk]

set_option maxRecDepth 100000 in
set_option maxHeartbeats 8000000 in
theorem sayings_any (p : Ptn) (vm : Value) (A : Array Value) (hA : A = (paC p vm).toArray) (hS : PtS p) (w : World) (h : MsR w vm p) :
    Calls Tryz.prog 55 #[.agg A] w fun e w' => ∃ v, e = .returned v ∧ OwnG w [⟨69, 2, v, (syL p).length, kyC (syL p)⟩] w' := by
  obtain ⟨ti, hti, hz0, hz1, hz2⟩ := info_parts infoSay
  obtain ⟨a, cap, rfl, hl, hm, -⟩ := id h.form
  obtain ⟨n, hn⟩ : ∃ n : Nat, n = p.n := ⟨_, rfl⟩
  rw [← hn] at h hl hA
  have HN : Hid (n = p.n) := hn
  unfold maxLen at hm
  have HM : Hid (MsR w (.slice a n cap) p) := h
  have HS : Hid (PtS p) := hS
  have HL : Hid (syL p = syS p n) := by show _ = _; rw [hn]; rfl
  clear h hn hS
  go_enter Tryz.func55, Tryz.ntmps55
  go_wp2_with (refine wpList_box_blk rfl 25 _ rfl (paC p (.slice a n cap)) (by rw [← hA]; rfl) ?_)
  intro w1 r1 b1 s1
  have c2 : w1.cell? ⟨w.heap.size, 3, none⟩ = some (.slice a n cap) := r1.cell 3
  have HM1 : Hid (MsR w1 (.slice a n cap) p) := HM.out.kept b1
  have HB1 : Hid (Below w.heap.size w w1) := b1
  have hO0 : OwnG w1 [⟨69, 2, .slice none 0 0, (syS p 0).length, kyC (syS p 0)⟩] w1 := (OwnG.start w1).nil 69 2
  clear b1 s1 hA r1 HM
  go_wp2
  go_loopw [3, 11] (fun ov iv wx => ∃ i : Nat, i ≤ n ∧ iv = .int .i64 (i : Int) ∧ OwnG w1 [⟨69, 2, ov, (syS p i).length, kyC (syS p i)⟩] wx) (fun _ iv _ => n - (intOf iv).toNat)
  case atStart => exact ⟨0, by omega, rfl, hO0⟩
  case round =>
    obtain ⟨i, hi, rfl, hO⟩ := hrel
    clear hO0
    by_cases hlt : i < n
    · have hd : decide ((i : Int) < (n : Int)) = true := decide_eq_true (by omega)
      have hiI : (i : Int) < (n : Int) := by omega
      have HMn : Hid (i < p.n) := by show _ < _; rw [← HN.out]; exact hlt
      obtain ⟨b, off, a', c', rfl, g1, g2, g3, g4, g5⟩ := ms_at HM1.out (k := i) HMn.out
      replace g1 := cellKP g1 hO.below
      replace g2 := cellKP g2 hO.below
      obtain ⟨M, hM⟩ : ∃ M : Nat, M = (p.tk i).length := ⟨_, rfl⟩
      rw [← hM] at g2 g3 g4
      have hM12 : M ≤ 12 := by rw [hM]; exact HS.out.t i HMn.out
      obtain ⟨q, hq⟩ : ∃ q : Bool, q = p.ini i := ⟨_, rfl⟩
      rw [← hq] at g1
      have HQ : Hid (q = p.ini i) := hq
      have HMl : Hid (M = (p.tk i).length) := hM
      have hrg := range_two g1 g2
      have HR : Hid (RdI .i64 w1 (.slice a' M c') (p.tk i)) := g3
      have HSl : Hid ((syS p i).length ≤ 96) := by have h1 := syS_len HS.out i (by have := HMn.out; omega); have h2 := HS.out.n; have h3 := HMn.out; show _ ≤ _; omega
      unfold maxLen at g5
      clear hM hq g1 g2 g3
      go_wp2_with (first
        | refine wpList_load_mid rfl 48 _ rfl b (off + i * 2) rfl [.bool q, .slice a' M c'] _ hrg Tryz.underlying48 rfl infoMsg ?_
        | refine wpList_alloc_blk rfl 48 rfl [.bool false, .slice none 0 0] (allocMsg _) ?_)
      intro w2 r2 b2 s2
      have hO2 := hO.kept b2
      go_wp2_with (refine wpList_store_part rfl 48 _ _ rfl rfl [.bool q, .slice a' M c'] rfl [] [.bool false, .slice none 0 0] [] [.bool q, .slice a' M c'] r2 rfl rfl rfl rfl infoMsg (oneCell2 _ _ _ _) ?_)
      intro w3 r3 hw3
      have hO3 := hO2.wrote hw3 hO.below.size (fun r hr b hb e => row_not_blk (hO2.rows r hr) r2 (by rcases List.mem_cons.1 hr with rfl | hr; exact (show (69 : TypeId) ≠ 48 by decide); cases hr) (by rw [hb, e]))
      have b3 : Below wr.heap.size wr w3 := hw3.below _ _ (Nat.le_refl _) b2
      obtain ⟨gm, hgm⟩ : ∃ g : Nat, g = wr.heap.size := ⟨_, rfl⟩
      rw [← hgm] at r3 ⊢
      have c3 : w3.cell? ⟨gm, 1, none⟩ = some (.slice a' M c') := r3.cell 1
      have hJ0 : OwnG w1 [⟨69, 2, u3, (syS p i ++ syR p i 0).length, kyC (syS p i ++ syR p i 0)⟩] w3 := by rw [syR_zero, List.append_nil]; exact hO3
      clear b2 s2 r2 hw3 b3 hrg hO hO2 hO3 hgm
      rename World => wv
      go_wp2
      go_loopw [3, 18] (fun ov jv wx => ∃ j : Nat, j ≤ M ∧ jv = .int .i64 (j : Int) ∧ BlkAt gm 48 [.bool q, .slice a' M c'] wx ∧ OwnG w1 [⟨69, 2, ov, (syS p i ++ syR p i j).length, kyC (syS p i ++ syR p i j)⟩] wx) (fun _ jv _ => M - (intOf jv).toNat)
      case atStart => exact ⟨0, by omega, rfl, r3, hJ0⟩
      case round =>
        obtain ⟨j, hj, rfl, rb, hO⟩ := hrel
        clear hJ0 r3
        by_cases hltj : j < M
        · have hdj : decide ((j : Int) < (M : Int)) = true := decide_eq_true (by omega)
          have hjI : (j : Int) < (M : Int) := by omega
          obtain ⟨gr, or, c2', ev, -, hcj, -⟩ := (HR.out.kept hO.below).cellAt (i := j) (by rw [← HMl.out]; exact hltj)
          simp only [Value.slice.injEq] at ev
          obtain ⟨rfl, -, rfl⟩ := ev
          obtain ⟨x, hx⟩ : ∃ x : Int, x = (p.tk i).getD j 0 := ⟨_, rfl⟩
          rw [← hx] at hcj
          have HX : Hid (syR p i (j + 1) = syR p i j ++ [(q, x)]) := by show _ = _; rw [syR_next p i j (by rw [← HMl.out]; exact hltj), ← HQ.out, ← hx]
          have d0 : wr.cell? ⟨gm, 0, none⟩ = some (.bool q) := rb.cell 0
          obtain ⟨LL, hLL⟩ : ∃ L : List Say, L = syS p i ++ syR p i j := ⟨_, rfl⟩
          rw [← hLL] at hO
          have hLn : LL.length ≤ 108 := by
            rw [hLL, List.length_append]
            have h1 := syR_len p i j
            have h2 := HSl.out
            omega
          have HLL : Hid (LL ++ [(q, x)] = syS p i ++ syR p i (j + 1)) := by show _ = _; rw [hLL, HX.out, List.append_assoc]
          clear hx hLL
          go_wp2_with (at_builtin; go_must (refine wpList_append_E rfl _ _ 65 rfl 69 ti _ 2 16 Tryz.underlying65 hti hz0 hz1 hz2 rfl (by decide) _ LL.length (kyC LL) rfl (hO.kept (growB _)) ⟨wr.heap.size, 0, none⟩ 1 1 [.bool q, .int .i64 x] rfl rfl (news2 _ _ rfl) (oneSay q x) (by unfold maxLen; omega) (by omega) ?_))
          intro v6 w6 hO6 hC6
          have rb6 : BlkAt gm 48 [.bool q, .slice (some ⟨gr, or, none⟩) M c'] w6 := (hO.kept (growB _)).chgRow (rb.kept (growB _)) (show (69 : TypeId) ≠ 48 by decide) hC6
          rw [kyC_next, HLL.out] at hO6
          have hO7 : OwnG w1 [⟨69, 2, v6, (syS p i ++ syR p i (j + 1)).length, kyC (syS p i ++ syR p i (j + 1))⟩] w6 := by
            have e : LL.length + 1 = (syS p i ++ syR p i (j + 1)).length := by rw [← HLL.out]; simp
            rw [e] at hO6
            exact hO6
          clear hO hO6 rb hC6
          go_wp2
          go_roundw
          case rel => exact ⟨j + 1, by omega, by go_num, rb6, hO7⟩
          case measure => simp [intOf] <;> omega
        · have hdj : decide ((j : Int) < (M : Int)) = false := decide_eq_false (by omega)
          have hjI : (M : Int) ≤ (j : Int) := by omega
          have hO8 : OwnG w1 [⟨69, 2, u3, (syS p (i + 1)).length, kyC (syS p (i + 1))⟩] wr := by
            have e : syS p (i + 1) = syS p i ++ syR p i j := by
              show syS p i ++ syR p i (p.tk i).length = _
              rw [← HMl.out, show M = j by omega]
            rw [e]
            exact hO
          go_wp2
          go_roundw
          case rel => exact ⟨i + 1, by omega, by go_num, hO8⟩
          case measure => simp [intOf] <;> omega
    · have hd : decide ((i : Int) < (n : Int)) = false := decide_eq_false (by omega)
      have hiI : (n : Int) ≤ (i : Int) := by omega
      have hO9 : OwnG w [⟨69, 2, u3, (syL p).length, kyC (syL p)⟩] wr := by
        rw [HL.out, show n = i by omega]
        exact hO.from HB1.out
      go_wp2
      go_ret
      exact ⟨_, rfl, hO9⟩
end Go.Proofs.YtpoibhhijidobabGreatDoor

/- What a secret is of: contracts of package pattern, fourth part. -/
namespace Go.Proofs.YtpoibhhijidobabGreatDoor
open Go.ChangeShapes Go.WideShapes Go.ChangeAt Go.RowKit
set_option linter.unusedSimpArgs false
set_option linter.unusedVariables false

/-- A token of the ten, or some other number. -/
theorem tok_cases (t : Int) : t = 3 ∨ t = 4 ∨ t = 5 ∨ t = 6 ∨ t = 7 ∨ t = 9 ∨ t = 10 ∨ (t ≠ 3 ∧ t ≠ 4 ∧ t ≠ 5 ∧ t ≠ 6 ∧ t ≠ 7 ∧ t ≠ 9 ∧ t ≠ 10) := by omega
theorem allocKey (w : World) : (Instr.alloc 76 true (.tuple #[])).run Tryz.prog w = .ok (.pointer (some ⟨w.heap.size, 0, none⟩)) (w.alloc (.cells #[.bool false, .int .i64 0] 76)) := by kernel_rfl
theorem allocSay (w : World) : (Instr.alloc 69 true (.tuple #[])).run Tryz.prog w = .ok (.pointer (some ⟨w.heap.size, 0, none⟩)) (w.alloc (.cells #[.bool false, .int .i64 0] 69)) := by kernel_rfl
theorem neI {a b : Int} (h : a ≠ b) : (a == b) = false := by simpa using h

set_option maxHeartbeats 2000000 in
theorem ofCurve_any (b : Bool) (t : Int) (A : Array Value) (hA : A = #[.bool b, .int .i64 t]) (w : World) :
    Calls Tryz.prog 28 #[.agg A] w fun e w' => e = .returned (.bool (cvB t)) ∧ Below w.heap.size w w' := by
  obtain ⟨r, hr⟩ : ∃ r : Bool, r = cvB t := ⟨_, rfl⟩
  have HR : Hid (r = cvB t) := hr
  rw [← hr]
  clear hr
  go_enter Tryz.func28, Tryz.ntmps28
  go_wp2_with (refine wpList_box_blk rfl 69 _ rfl [.bool b, .int .i64 t] (by rw [← hA]; rfl) ?_)
  intro w1 r1 b1 s1
  have c1 : w1.cell? ⟨w.heap.size, 1, none⟩ = some (.int .i64 t) := r1.cell 1
  clear r1 s1 hA
  by_cases h3 : t = 3
  · subst h3
    go_wp2
    go_ret
    exact ⟨by rw [HR.out]; rfl, b1⟩
  have e3 := neI h3
  by_cases h4 : t = 4
  · subst h4
    go_wp2
    go_ret
    exact ⟨by rw [HR.out]; rfl, b1⟩
  have e4 := neI h4
  by_cases h5 : t = 5
  · subst h5
    go_wp2
    go_ret
    exact ⟨by rw [HR.out]; rfl, b1⟩
  have e5 := neI h5
  by_cases h6 : t = 6
  · subst h6
    go_wp2
    go_ret
    exact ⟨by rw [HR.out]; rfl, b1⟩
  have e6 := neI h6
  have HF : Hid (r = false) := by show _ = _; rw [HR.out]; simp [cvB, h3, h4, h5, h6]
  go_wp2
  go_ret
  exact ⟨by rw [HF.out]; rfl, b1⟩

set_option maxHeartbeats 2000000 in
theorem ofKem_any (b : Bool) (t : Int) (A : Array Value) (hA : A = #[.bool b, .int .i64 t]) (w : World) :
    Calls Tryz.prog 29 #[.agg A] w fun e w' => e = .returned (.bool (kmB t)) ∧ Below w.heap.size w w' := by
  obtain ⟨r, hr⟩ : ∃ r : Bool, r = kmB t := ⟨_, rfl⟩
  have HR : Hid (r = kmB t) := hr
  rw [← hr]
  clear hr
  go_enter Tryz.func29, Tryz.ntmps29
  go_wp2_with (refine wpList_box_blk rfl 69 _ rfl [.bool b, .int .i64 t] (by rw [← hA]; rfl) ?_)
  intro w1 r1 b1 s1
  have c1 : w1.cell? ⟨w.heap.size, 1, none⟩ = some (.int .i64 t) := r1.cell 1
  clear r1 s1 hA
  by_cases h3 : t = 9
  · subst h3
    go_wp2
    go_ret
    exact ⟨by rw [HR.out]; rfl, b1⟩
  have e3 := neI h3
  by_cases h4 : t = 10
  · subst h4
    go_wp2
    go_ret
    exact ⟨by rw [HR.out]; rfl, b1⟩
  have e4 := neI h4
  have HF : Hid (r = false) := by show _ = _; rw [HR.out]; simp [kmB, h3, h4]
  go_wp2
  go_ret
  exact ⟨by rw [HF.out]; rfl, b1⟩

set_option maxHeartbeats 2000000 in
theorem ofBoth_any (b : Bool) (t : Int) (A : Array Value) (hA : A = #[.bool b, .int .i64 t]) (w : World) :
    Calls Tryz.prog 56 #[.agg A] w fun e w' => e = .returned (.bool (pkB t)) ∧ Below w.heap.size w w' := by
  obtain ⟨r, hr⟩ : ∃ r : Bool, r = pkB t := ⟨_, rfl⟩
  have HR : Hid (r = pkB t) := hr
  rw [← hr]
  clear hr
  go_enter Tryz.func56, Tryz.ntmps56
  go_wp2_with (refine wpList_box_blk rfl 69 _ rfl [.bool b, .int .i64 t] (by rw [← hA]; rfl) ?_)
  intro w1 r1 b1 s1
  have c1 : w1.cell? ⟨w.heap.size, 1, none⟩ = some (.int .i64 t) := r1.cell 1
  clear r1 s1 hA
  by_cases h3 : t = 7
  · subst h3
    go_wp2
    go_ret
    exact ⟨by rw [HR.out]; rfl, b1⟩
  have e3 := neI h3
  have HF : Hid (r = false) := by show _ = _; rw [HR.out]; simp [pkB, h3]
  go_wp2
  go_ret
  exact ⟨by rw [HF.out]; rfl, b1⟩

set_option maxRecDepth 100000 in
set_option maxHeartbeats 2000000 in
theorem isSecret_any (b : Bool) (t : Int) (A : Array Value) (hA : A = #[.bool b, .int .i64 t]) (w : World) :
    Calls Tryz.prog 31 #[.agg A] w fun e w' => e = .returned (.bool (scB t)) ∧ Below w.heap.size w w' := by
  obtain ⟨r1, hr1⟩ : ∃ r : Bool, r = cvB t := ⟨_, rfl⟩
  obtain ⟨r2, hr2⟩ : ∃ r : Bool, r = kmB t := ⟨_, rfl⟩
  obtain ⟨r3, hr3⟩ : ∃ r : Bool, r = pkB t := ⟨_, rfl⟩
  have HS : Hid (scB t = (r1 || r2 || r3)) := by show _ = _; rw [hr1, hr2, hr3]; rfl
  have H1 : Hid (r1 = cvB t) := hr1
  have H2 : Hid (r2 = kmB t) := hr2
  have H3 : Hid (r3 = pkB t) := hr3
  clear hr1 hr2 hr3
  go_enter Tryz.func31, Tryz.ntmps31
  go_wp2_with (refine wpList_box_blk rfl 69 _ rfl [.bool b, .int .i64 t] (by rw [← hA]; rfl) ?_)
  intro w1 q1 b1 s1
  clear s1 hA
  go_wp2_with (refine wpList_load_part rfl 69 _ rfl rfl [] [.bool b, .int .i64 t] [] q1 rfl rfl Tryz.underlying69 rfl infoSay2 ?_)
  refine (ofCurve_any b t _ rfl _).mono ?_
  rintro e w2 ⟨rfl, b2⟩
  rw [← H1.out]
  replace q1 := q1.kept b2
  replace b1 := stepB b1 b2
  clear b2
  cases r1 with
  | true =>
    go_wp2
    go_ret
    exact ⟨by rw [HS.out]; rfl, b1⟩
  | false =>
    go_wp2_with (refine wpList_loadG 69 _ rfl rfl [.bool b, .int .i64 t] q1 Tryz.underlying69 rfl infoSay2 (by go_simp; done) ?_)
    refine (ofKem_any b t _ rfl _).mono ?_
    rintro e w3 ⟨rfl, b2⟩
    rw [← H2.out]
    replace q1 := q1.kept b2
    replace b1 := stepB b1 b2
    clear b2
    cases r2 with
    | true =>
      go_wp2
      go_ret
      exact ⟨by rw [HS.out]; rfl, b1⟩
    | false =>
      go_wp2_with (refine wpList_loadG 69 _ rfl rfl [.bool b, .int .i64 t] q1 Tryz.underlying69 rfl infoSay2 (by go_simp; done) ?_)
      refine (ofBoth_any b t _ rfl _).mono ?_
      rintro e w4 ⟨rfl, b2⟩
      rw [← H3.out]
      replace b1 := stepB b1 b2
      clear b2
      go_wp2
      go_ret
      exact ⟨by rw [HS.out]; cases r3 <;> rfl, b1⟩

set_option maxHeartbeats 2000000 in
theorem key_any (b : Bool) (t : Int) (A : Array Value) (hA : A = #[.bool b, .int .i64 t]) (w : World) :
    Calls Tryz.prog 83 #[.agg A] w fun e w' => e = .returned (.agg #[.bool b, .int .i64 t]) ∧ Below w.heap.size w w' := by
  go_enter Tryz.func83, Tryz.ntmps83
  go_wp2_with (refine wpList_box_blk rfl 69 _ rfl [.bool b, .int .i64 t] (by rw [← hA]; rfl) ?_)
  intro w1 q1 b1 s1
  have c0 : w1.cell? ⟨w.heap.size, 0, none⟩ = some (.bool b) := q1.cell 0
  have c1 : w1.cell? ⟨w.heap.size, 1, none⟩ = some (.int .i64 t) := q1.cell 1
  clear s1 hA
  go_wp2_with (refine wpList_alloc_blk rfl 76 rfl [.bool false, .int .i64 0] (allocKey _) ?_)
  intro w2 q2 b2 s2
  replace c0 := cellKP c0 b2
  replace c1 := cellKP c1 b2
  clear q1 s2
  go_wp2_with (refine wpList_store_part rfl 76 _ _ rfl rfl [.bool b, .int .i64 t] rfl [] [.bool false, .int .i64 0] [] [.bool b, .int .i64 t] q2 rfl rfl rfl rfl infoKey2 (oneSayA b t) ?_)
  intro w3 q3 hw3
  have b3 := hw3.below _ _ b1.size (stepB b1 b2)
  go_wp2
  refine bodyPost_blk rfl rfl rfl q3 Tryz.underlying76 rfl infoKey2 ?_
  exact ⟨rfl, b3⟩

set_option maxRecDepth 100000 in
set_option maxHeartbeats 4000000 in
theorem guards_any (b : Bool) (t : Int) (A : Array Value) (hA : A = #[.bool b, .int .i64 t]) (w : World) :
    Calls Tryz.prog 35 #[.agg A] w fun e w' => ∃ v, e = .returned v ∧ OwnG w [⟨76, 2, v, (scK t (!b)).length, kyC (scK t (!b))⟩] w' := by
  go_enter Tryz.func35, Tryz.ntmps35
  go_wp2_with (refine wpList_box_blk rfl 69 _ rfl [.bool b, .int .i64 t] (by rw [← hA]; rfl) ?_)
  intro w1 q1 b1 s1
  have c0 : w1.cell? ⟨w.heap.size, 0, none⟩ = some (.bool b) := q1.cell 0
  have c1 : w1.cell? ⟨w.heap.size, 1, none⟩ = some (.int .i64 t) := q1.cell 1
  have HO : Hid (∀ (xs : List (Bool × Int)), OwnG w [⟨76, 2, .slice (some ⟨w1.heap.size, 0, none⟩) xs.length xs.length, xs.length, kyC xs⟩] (w1.alloc (.cells (kyC xs).toArray 76)) ∨ maxLen < xs.length) := by
    show ∀ xs, _
    intro xs
    by_cases h : maxLen < xs.length
    · exact .inr h
    · exact .inl ((OwnG.since b1).lit 76 2 xs.length w1.heap.size (kyC xs) _ rfl rfl (by omega) (by rw [kyC_len]))
  have HN : Hid (OwnG w [⟨76, 2, .slice none 0 0, 0, []⟩] w1) := (OwnG.since b1).nil 76 2
  clear q1 s1 hA
  have ml : ∀ n : Nat, maxLen < n → n ≤ 2 → False := by unfold maxLen; omega
  have HL : Hid _ := ml
  clear ml
  rcases tok_cases t with rfl | rfl | rfl | rfl | rfl | rfl | rfl | ⟨h3, h4, h5, h6, h7, h9, h10⟩
  · go_wp2
    go_ret
    exact ⟨_, rfl, (HO.out [(true, 1), (false, 1)]).resolve_right fun h => HL.out _ h (by decide)⟩
  · go_wp2
    go_ret
    exact ⟨_, rfl, (HO.out [(true, 1), (false, 2)]).resolve_right fun h => HL.out _ h (by decide)⟩
  · go_wp2
    go_ret
    exact ⟨_, rfl, (HO.out [(true, 2), (false, 1)]).resolve_right fun h => HL.out _ h (by decide)⟩
  · go_wp2
    go_ret
    exact ⟨_, rfl, (HO.out [(true, 2), (false, 2)]).resolve_right fun h => HL.out _ h (by decide)⟩
  · go_wp2
    go_ret
    exact ⟨_, rfl, (HO.out [(false, 7)]).resolve_right fun h => HL.out _ h (by decide)⟩
  · go_wp2
    go_ret
    exact ⟨_, rfl, (HO.out [(!b, 8)]).resolve_right fun h => HL.out _ h (by simp)⟩
  · go_wp2
    go_ret
    exact ⟨_, rfl, (HO.out [(!b, 2)]).resolve_right fun h => HL.out _ h (by simp)⟩
  · have e3 := neI h3
    have e4 := neI h4
    have e5 := neI h5
    have e6 := neI h6
    have e7 := neI h7
    have e9 := neI h9
    have e10 := neI h10
    have HK : Hid (scK t (!b) = []) := by show _ = _; simp [scK, h3, h4, h5, h6, h7, h9, h10]
    go_wp2
    go_ret
    exact ⟨_, rfl, by rw [HK.out]; exact HN.out⟩

set_option maxRecDepth 100000 in
set_option maxHeartbeats 4000000 in
theorem repeats_any (b1 b2 : Bool) (t1 t2 : Int) (A B : Array Value) (hA : A = #[.bool b1, .int .i64 t1]) (hB : B = #[.bool b2, .int .i64 t2]) (w : World) :
    Calls Tryz.prog 85 #[.agg A, .agg B] w fun e w' => e = .returned (.bool (rpB (b1, t1) (b2, t2))) ∧ Below w.heap.size w w' := by
  obtain ⟨r, hr⟩ : ∃ r : Bool, r = rpB (b1, t1) (b2, t2) := ⟨_, rfl⟩
  have HR : Hid (r = (decide (t1 = t2) && (decide (b1 = b2) || !kmB t1))) := hr
  rw [← hr]
  clear hr
  go_enter Tryz.func85, Tryz.ntmps85
  go_wp2_with (refine wpList_box_blk rfl 69 (.tmp 0) rfl [.bool b1, .int .i64 t1] (by rw [← hA]; rfl) ?_)
  intro w1 q1 d1 s1
  go_wp2_with (refine wpList_box_blk rfl 69 (.tmp 1) rfl [.bool b2, .int .i64 t2] (by rw [← hB]; rfl) ?_)
  intro w2 q2 d2 s2
  replace q1 := q1.kept d2
  replace d1 := stepB d1 d2
  have c0 : w2.cell? ⟨w.heap.size, 0, none⟩ = some (.bool b1) := q1.cell 0
  have c1 : w2.cell? ⟨w.heap.size, 1, none⟩ = some (.int .i64 t1) := q1.cell 1
  have e0 : w2.cell? ⟨w1.heap.size, 0, none⟩ = some (.bool b2) := q2.cell 0
  have e1 : w2.cell? ⟨w1.heap.size, 1, none⟩ = some (.int .i64 t2) := q2.cell 1
  clear s1 s2 hA hB d2 q2
  by_cases ht : t1 = t2
  · have ht2 : (t1 == t2) = true := by simpa using ht
    have HR2 : Hid (r = (decide (b1 = b2) || !kmB t1)) := by show _ = _; rw [HR.out, decide_eq_true ht]; rfl
    have e1' : w2.cell? ⟨w1.heap.size, 1, none⟩ = some (.int .i64 t1) := by rw [e1, ht]
    clear ht ht2 e1
    by_cases hb : b1 = b2
    · subst hb
      have HR3 : Hid (r = true) := by show _ = _; rw [HR2.out]; simp
      clear q1
      cases b1
      all_goals
        go_wp2
        go_ret
        exact ⟨by rw [HR3.out]; rfl, d1⟩
    · have HR3 : Hid (r = !kmB t1) := by show _ = _; rw [HR2.out, decide_eq_false hb]; rfl
      cases b1 <;> cases b2 <;> simp at hb
      all_goals
        go_wp2_with (refine wpList_loadG 69 _ rfl rfl _ q1 Tryz.underlying69 rfl infoSay2 (by go_simp; done) ?_)
        refine (ofKem_any _ t1 _ rfl _).mono ?_
        rintro e w4 ⟨rfl, b2⟩
        go_wp2
        go_ret
        exact ⟨by rw [HR3.out]; rfl, stepB d1 b2⟩
  · have ht2 : (t1 == t2) = false := neI ht
    have HR2 : Hid (r = false) := by show _ = _; rw [HR.out, decide_eq_false ht]; rfl
    go_wp2
    go_ret
    exact ⟨by rw [HR2.out]; rfl, d1⟩
end Go.Proofs.YtpoibhhijidobabGreatDoor

/- Keys and sayings that are looked for: contracts of the library's functions over slices, at package pattern's own types. -/
namespace Go.Proofs.YtpoibhhijidobabGreatDoor
open Go.ChangeShapes Go.WideShapes Go.ChangeAt Go.RowKit
set_option linter.unusedSimpArgs false
set_option linter.unusedVariables false

theorem beq_say (a b : Bool) (x y : Int) : (((a, x) : Say) == (b, y)) = (decide (a = b) && decide (x = y)) := by
  show ((a == b) && (x == y)) = _
  congr 1 <;> (rw [Bool.eq_iff_iff]; simp)
theorem any_take {α : Type} (f : α → Bool) (l : List α) (n : Nat) (h : n = l.length) : (l.take n).any f = l.any f := by rw [h, List.take_length]
theorem idx_miss {l : List Say} {f : Say → Bool} (h : ∀ k, k < l.length → f (l.getD k (false, 0)) = false) : l.any f = false := by
  rw [List.any_eq_false]
  intro x hx
  obtain ⟨k, hk, rfl⟩ := List.mem_iff_getElem.1 hx
  have := h k hk
  simp [hk] at this
  simp [this]
theorem idx_hit {l : List Say} {f : Say → Bool} {k : Nat} (hk : k < l.length) (h : f (l.getD k (false, 0)) = true) : l.any f = true := by
  rw [List.any_eq_true]
  refine ⟨l.getD k (false, 0), ?_, h⟩
  simp [hk]

set_option maxRecDepth 100000 in
set_option maxHeartbeats 4000000 in
theorem keyIdx_any (k : Say) (ks : List Say) (v : Value) (A : Array Value) (hA : A = #[.bool k.1, .int .i64 k.2]) (w : World) (h : KyR w v ks) :
    Calls Tryz.prog 59 #[v, .agg A] w fun e w' => (∃ r : Int, e = .returned (.int .i64 r) ∧ decide (0 ≤ r) = ks.any fun q => q == k) ∧ Below w.heap.size w w' := by
  obtain ⟨kb, kt⟩ := k
  obtain ⟨a, cap, rfl, hl, hm, -⟩ := id h
  obtain ⟨n, hn⟩ : ∃ n : Nat, n = ks.length := ⟨_, rfl⟩
  rw [← hn] at h hl
  have HN : Hid (n = ks.length) := hn
  unfold maxLen at hm
  have HK : Hid (KyR w (.slice a n cap) ks) := h
  rw [← hn]
  clear h hn
  go_enter Tryz.func59, Tryz.ntmps59
  go_wp2_with (refine wpList_box_blk rfl 76 _ rfl [.bool kb, .int .i64 kt] (by rw [← hA]; rfl) ?_)
  intro w1 q1 b1 s1
  have HK1 : Hid (KyR w1 (.slice a n cap) ks) := HK.out.kept b1
  have c0 : w1.cell? ⟨w.heap.size, 0, none⟩ = some (.bool kb) := q1.cell 0
  have c1 : w1.cell? ⟨w.heap.size, 1, none⟩ = some (.int .i64 kt) := q1.cell 1
  have HC0 : Hid _ := c0
  have HC1 : Hid _ := c1
  have HB : Hid (Below w.heap.size w w1) := b1
  clear s1 hA b1 q1 HK c0 c1
  go_wp2
  go_loopw [8] (fun iv wx => ∃ i : Nat, i ≤ n ∧ iv = .int .i64 (i : Int) ∧ Hid (∀ j, j < i → ((ks.getD j (false, 0)) == (kb, kt)) = false) ∧ Below w1.heap.size w1 wx) (fun iv _ => n - (intOf iv).toNat)
  case atStart => exact ⟨0, by omega, rfl, (by show ∀ k, _; intro k hk; omega), Below.refl _ _⟩
  case round =>
    obtain ⟨i, hi, rfl, HI, hbx⟩ := hrel
    by_cases hlt : i < n
    · have hd : decide ((i : Int) < (n : Int)) = true := decide_eq_true (by omega)
      have hiI : (i : Int) < (n : Int) := by omega
      have HIn : Hid (i < ks.length) := by show _ < _; rw [← HN.out]; exact hlt
      obtain ⟨b, off, rfl, g1, g2⟩ := HK1.out.at HIn.out
      replace g1 := cellKP g1 hbx
      replace g2 := cellKP g2 hbx
      obtain ⟨x, hx⟩ : ∃ x : Say, x = ks.getD i (false, 0) := ⟨_, rfl⟩
      rw [← hx] at g1 g2
      have HX : Hid (x = ks.getD i (false, 0)) := hx
      obtain ⟨xb, xt⟩ := x
      have c0 := cellKP HC0.out hbx
      have c1 := cellKP HC1.out hbx
      clear hx
      by_cases hb : kb = xb
      · by_cases ht : kt = xt
        · have HF : Hid ((ks.any fun q => q == (kb, kt)) = true) := idx_hit HIn.out (by rw [← HX.out, beq_say, decide_eq_true hb.symm, decide_eq_true ht.symm]; rfl)
          have hbd := hbx.drew
          go_wp2
          go_region
          go_wp2
          go_ret
          exact ⟨⟨_, rfl, by rw [HF.out]; exact decide_eq_true (by omega)⟩, stepB HB.out hbd⟩
        · have HI2 : Hid (∀ j, j < i + 1 → ((ks.getD j (false, 0)) == (kb, kt)) = false) := by
            show ∀ j, _
            intro j hj
            rcases Nat.lt_or_ge j i with h | h
            · exact HI.out j h
            · rw [show j = i by omega, ← HX.out, beq_say, decide_eq_false (show ¬ xt = kt from fun e => ht e.symm)]
              simp
          have hbd := hbx.drew
          subst hb
          go_wp2
          go_region
          go_wp2
          go_roundw
          case rel => exact ⟨i + 1, by omega, by go_num, HI2, hbd⟩
          case measure => simp [intOf] <;> omega
      · have HI2 : Hid (∀ j, j < i + 1 → ((ks.getD j (false, 0)) == (kb, kt)) = false) := by
          show ∀ j, _
          intro j hj
          rcases Nat.lt_or_ge j i with h | h
          · exact HI.out j h
          · rw [show j = i by omega, ← HX.out, beq_say, decide_eq_false (show ¬ xb = kb from fun e => hb e.symm)]
            simp
        have hbd := hbx.drew
        go_wp2
        go_region
        go_wp2
        go_roundw
        case rel => exact ⟨i + 1, by omega, by go_num, HI2, hbd⟩
        case measure => simp [intOf] <;> omega
    · have hd : decide ((i : Int) < (n : Int)) = false := decide_eq_false (by omega)
      have hiI : (n : Int) ≤ (i : Int) := by omega
      have HO : Hid ((ks.any fun q => q == (kb, kt)) = false) := idx_miss fun k hk => HI.out k (by rw [← HN.out] at hk; omega)
      go_wp2
      go_ret
      exact ⟨⟨_, rfl, by rw [HO.out]; rfl⟩, stepB HB.out hbx⟩

set_option maxRecDepth 100000 in
set_option maxHeartbeats 4000000 in
theorem keyIn_any (k : Say) (ks : List Say) (v : Value) (A : Array Value) (hA : A = #[.bool k.1, .int .i64 k.2]) (w : World) (h : KyR w v ks) :
    Calls Tryz.prog 37 #[v, .agg A] w fun e w' => e = .returned (.bool (ks.any fun q => q == k)) ∧ Below w.heap.size w w' := by
  have HK : Hid (KyR w v ks) := h
  clear h
  go_enter Tryz.func37, Tryz.ntmps37
  go_wp2_with (refine wpList_box_blk rfl 76 _ rfl [.bool k.1, .int .i64 k.2] (by rw [← hA]; rfl) ?_)
  intro w1 q1 b1 s1
  clear s1 hA
  go_wp2_with (refine wpList_load_part rfl 76 _ rfl rfl [] [.bool k.1, .int .i64 k.2] [] q1 rfl rfl Tryz.underlying76 rfl infoKey2 ?_)
  refine (keyIdx_any k ks v _ rfl _ (HK.out.kept b1)).mono ?_
  rintro e w2 ⟨⟨r, rfl, hr⟩, b2⟩
  have HR : Hid (decide (0 ≤ r) = ks.any fun q => q == k) := hr
  clear hr
  go_wp2
  go_ret
  exact ⟨by rw [← HR.out]; rfl, stepB b1 b2⟩

/-! ### Functions that ask -/
theorem enters15 {f : FuncId} {fn : Func} {c : Code} (hf : Tryz.prog.funcs[f]? = some fn) (hn : (fn.name == "runtime.NumGoroutine") = false) (hb : fn.body = some c) (args : Array Value) (w : World) : (callFunc f args).run Tryz.prog w = .ok (.enter f args) w := enters_of hf hn hb args w

set_option maxRecDepth 100000 in
set_option maxHeartbeats 4000000 in
theorem keyFn_any (K : FuncId) (ra la : Array Value) (f : Say → Bool) (ks : List Say) (v : Value) (w : World) (h : KyR w v ks) (hE : ∀ (args : Array Value) (w : World), (callFunc K args).run Tryz.prog w = .ok (.enter K args) w)
    (hK : ∀ k ∈ ks, ∀ W, Below w.heap.size w W → Calls Tryz.prog K (ra ++ #[.agg #[.bool k.1, .int .i64 k.2]] ++ la) W fun e w' => e = .returned (.bool (f k)) ∧ Below W.heap.size W w') :
    Calls Tryz.prog 58 #[v, .func (.func K) ra la] w fun e w' => (∃ r : Int, e = .returned (.int .i64 r) ∧ decide (0 ≤ r) = ks.any f) ∧ Below w.heap.size w w' := by
  have HF : Hid _ := hK
  obtain ⟨a, cap, rfl, hl, hm, -⟩ := id h
  obtain ⟨n, hn⟩ : ∃ n : Nat, n = ks.length := ⟨_, rfl⟩
  rw [← hn] at h hl
  have HN : Hid (n = ks.length) := hn
  unfold maxLen at hm
  have HK1 : Hid (KyR w (.slice a n cap) ks) := h
  rw [← hn]
  clear h hn hK
  go_enter Tryz.func58, Tryz.ntmps58
  go_wp2
  go_loopw [8] (fun iv wx => ∃ i : Nat, i ≤ n ∧ iv = .int .i64 (i : Int) ∧ Hid (∀ j, j < i → f (ks.getD j (false, 0)) = false) ∧ Below w.heap.size w wx) (fun iv _ => n - (intOf iv).toNat)
  case atStart => exact ⟨0, by omega, rfl, (by show ∀ k, _; intro k hk; omega), Below.refl _ _⟩
  case round =>
    obtain ⟨i, hi, rfl, HI, hbx⟩ := hrel
    by_cases hlt : i < n
    · have hd : decide ((i : Int) < (n : Int)) = true := decide_eq_true (by omega)
      have hiI : (i : Int) < (n : Int) := by omega
      have HIn : Hid (i < ks.length) := by show _ < _; rw [← HN.out]; exact hlt
      obtain ⟨b, off, rfl, g1, g2⟩ := HK1.out.at HIn.out
      replace g1 := cellKP g1 hbx
      replace g2 := cellKP g2 hbx
      have HC := HF.out (ks.getD i (false, 0)) (by have := HIn.out; simp [this]) _ hbx
      obtain ⟨x, hx⟩ : ∃ x : Say, x = ks.getD i (false, 0) := ⟨_, rfl⟩
      rw [← hx] at g1 g2 HC
      have HX : Hid (x = ks.getD i (false, 0)) := hx
      obtain ⟨xb, xt⟩ := x
      have HC : Hid (Calls Tryz.prog K (ra ++ #[.agg #[.bool xb, .int .i64 xt]] ++ la) wr fun e w' => e = .returned (.bool (f (xb, xt))) ∧ Below wr.heap.size wr w') := HC
      have hrg := range_two g1 g2
      clear hx g1 g2
      go_wp2_with (refine wpList_load_mid rfl 76 _ rfl b (off + i * 2) rfl [.bool xb, .int .i64 xt] _ hrg Tryz.underlying76 rfl infoKey2 ?_)
      refine HC.out.mono ?_
      rintro e w2 ⟨rfl, b2⟩
      obtain ⟨y, hy⟩ : ∃ y : Bool, y = f (xb, xt) := ⟨_, rfl⟩
      rw [← hy]
      have HY : Hid (y = f (xb, xt)) := hy
      have hbx2 := stepB hbx b2
      clear hy hrg HC b2
      cases y with
      | true =>
        have HO : Hid (ks.any f = true) := idx_hit HIn.out (by rw [← HX.out]; exact HY.out.symm)
        go_wp2
        go_ret
        exact ⟨⟨_, rfl, by rw [HO.out]; exact decide_eq_true (by omega)⟩, hbx2⟩
      | false =>
        have HI2 : Hid (∀ j, j < i + 1 → f (ks.getD j (false, 0)) = false) := by
          show ∀ j, _
          intro j hj
          rcases Nat.lt_or_ge j i with h | h
          · exact HI.out j h
          · rw [show j = i by omega, ← HX.out]; exact HY.out.symm
        go_wp2
        go_roundw
        case rel => exact ⟨i + 1, by omega, by go_num, HI2, hbx2⟩
        case measure => simp [intOf] <;> omega
    · have hd : decide ((i : Int) < (n : Int)) = false := decide_eq_false (by omega)
      have hiI : (n : Int) ≤ (i : Int) := by omega
      have HO : Hid (ks.any f = false) := idx_miss fun k hk => HI.out k (by rw [← HN.out] at hk; omega)
      go_wp2
      go_ret
      exact ⟨⟨_, rfl, by rw [HO.out]; rfl⟩, hbx⟩

set_option maxHeartbeats 2000000 in
theorem keyAny_any (K : FuncId) (ra la : Array Value) (f : Say → Bool) (ks : List Say) (v : Value) (w : World) (h : KyR w v ks) (hE : ∀ (args : Array Value) (w : World), (callFunc K args).run Tryz.prog w = .ok (.enter K args) w)
    (hK : ∀ k ∈ ks, ∀ W, Below w.heap.size w W → Calls Tryz.prog K (ra ++ #[.agg #[.bool k.1, .int .i64 k.2]] ++ la) W fun e w' => e = .returned (.bool (f k)) ∧ Below W.heap.size W w') :
    Calls Tryz.prog 34 #[v, .func (.func K) ra la] w fun e w' => e = .returned (.bool (ks.any f)) ∧ Below w.heap.size w w' := by
  have HF : Hid (Calls Tryz.prog 58 #[v, .func (.func K) ra la] w fun e w' => (∃ r : Int, e = .returned (.int .i64 r) ∧ decide (0 ≤ r) = ks.any f) ∧ Below w.heap.size w w') := keyFn_any K ra la f ks v w h hE hK
  clear hK h hE
  go_enter Tryz.func34, Tryz.ntmps34
  go_wp2_with fail
  refine HF.out.mono ?_
  rintro e w2 ⟨⟨r, rfl, hr⟩, b2⟩
  have HR : Hid (decide (0 ≤ r) = ks.any f) := hr
  clear hr
  go_wp2
  go_ret
  exact ⟨by rw [← HR.out]; rfl, b2⟩

set_option maxRecDepth 100000 in
set_option maxHeartbeats 4000000 in
theorem sayFn_any (K : FuncId) (ra la : Array Value) (f : Say → Bool) (ks : List Say) (v : Value) (w : World) (h : KyR w v ks) (hE : ∀ (args : Array Value) (w : World), (callFunc K args).run Tryz.prog w = .ok (.enter K args) w)
    (hK : ∀ k ∈ ks, ∀ W, Below w.heap.size w W → Calls Tryz.prog K (ra ++ #[.agg #[.bool k.1, .int .i64 k.2]] ++ la) W fun e w' => e = .returned (.bool (f k)) ∧ Below W.heap.size W w') :
    Calls Tryz.prog 99 #[v, .func (.func K) ra la] w fun e w' => (∃ r : Int, e = .returned (.int .i64 r) ∧ decide (0 ≤ r) = ks.any f) ∧ Below w.heap.size w w' := by
  have HF : Hid _ := hK
  obtain ⟨a, cap, rfl, hl, hm, -⟩ := id h
  obtain ⟨n, hn⟩ : ∃ n : Nat, n = ks.length := ⟨_, rfl⟩
  rw [← hn] at h hl
  have HN : Hid (n = ks.length) := hn
  unfold maxLen at hm
  have HK1 : Hid (KyR w (.slice a n cap) ks) := h
  rw [← hn]
  clear h hn hK
  go_enter Tryz.func99, Tryz.ntmps99
  go_wp2
  go_loopw [8] (fun iv wx => ∃ i : Nat, i ≤ n ∧ iv = .int .i64 (i : Int) ∧ Hid (∀ j, j < i → f (ks.getD j (false, 0)) = false) ∧ Below w.heap.size w wx) (fun iv _ => n - (intOf iv).toNat)
  case atStart => exact ⟨0, by omega, rfl, (by show ∀ k, _; intro k hk; omega), Below.refl _ _⟩
  case round =>
    obtain ⟨i, hi, rfl, HI, hbx⟩ := hrel
    by_cases hlt : i < n
    · have hd : decide ((i : Int) < (n : Int)) = true := decide_eq_true (by omega)
      have hiI : (i : Int) < (n : Int) := by omega
      have HIn : Hid (i < ks.length) := by show _ < _; rw [← HN.out]; exact hlt
      obtain ⟨b, off, rfl, g1, g2⟩ := HK1.out.at HIn.out
      replace g1 := cellKP g1 hbx
      replace g2 := cellKP g2 hbx
      have HC := HF.out (ks.getD i (false, 0)) (by have := HIn.out; simp [this]) _ hbx
      obtain ⟨x, hx⟩ : ∃ x : Say, x = ks.getD i (false, 0) := ⟨_, rfl⟩
      rw [← hx] at g1 g2 HC
      have HX : Hid (x = ks.getD i (false, 0)) := hx
      obtain ⟨xb, xt⟩ := x
      have HC : Hid (Calls Tryz.prog K (ra ++ #[.agg #[.bool xb, .int .i64 xt]] ++ la) wr fun e w' => e = .returned (.bool (f (xb, xt))) ∧ Below wr.heap.size wr w') := HC
      have hrg := range_two g1 g2
      clear hx g1 g2
      go_wp2_with (refine wpList_load_mid rfl 69 _ rfl b (off + i * 2) rfl [.bool xb, .int .i64 xt] _ hrg Tryz.underlying69 rfl infoSay2 ?_)
      refine HC.out.mono ?_
      rintro e w2 ⟨rfl, b2⟩
      obtain ⟨y, hy⟩ : ∃ y : Bool, y = f (xb, xt) := ⟨_, rfl⟩
      rw [← hy]
      have HY : Hid (y = f (xb, xt)) := hy
      have hbx2 := stepB hbx b2
      clear hy hrg HC b2
      cases y with
      | true =>
        have HO : Hid (ks.any f = true) := idx_hit HIn.out (by rw [← HX.out]; exact HY.out.symm)
        go_wp2
        go_ret
        exact ⟨⟨_, rfl, by rw [HO.out]; exact decide_eq_true (by omega)⟩, hbx2⟩
      | false =>
        have HI2 : Hid (∀ j, j < i + 1 → f (ks.getD j (false, 0)) = false) := by
          show ∀ j, _
          intro j hj
          rcases Nat.lt_or_ge j i with h | h
          · exact HI.out j h
          · rw [show j = i by omega, ← HX.out]; exact HY.out.symm
        go_wp2
        go_roundw
        case rel => exact ⟨i + 1, by omega, by go_num, HI2, hbx2⟩
        case measure => simp [intOf] <;> omega
    · have hd : decide ((i : Int) < (n : Int)) = false := decide_eq_false (by omega)
      have hiI : (n : Int) ≤ (i : Int) := by omega
      have HO : Hid (ks.any f = false) := idx_miss fun k hk => HI.out k (by rw [← HN.out] at hk; omega)
      go_wp2
      go_ret
      exact ⟨⟨_, rfl, by rw [HO.out]; rfl⟩, hbx⟩

set_option maxHeartbeats 2000000 in
theorem sayAny_any (K : FuncId) (ra la : Array Value) (f : Say → Bool) (ks : List Say) (v : Value) (w : World) (h : KyR w v ks) (hE : ∀ (args : Array Value) (w : World), (callFunc K args).run Tryz.prog w = .ok (.enter K args) w)
    (hK : ∀ k ∈ ks, ∀ W, Below w.heap.size w W → Calls Tryz.prog K (ra ++ #[.agg #[.bool k.1, .int .i64 k.2]] ++ la) W fun e w' => e = .returned (.bool (f k)) ∧ Below W.heap.size W w') :
    Calls Tryz.prog 84 #[v, .func (.func K) ra la] w fun e w' => e = .returned (.bool (ks.any f)) ∧ Below w.heap.size w w' := by
  have HF : Hid (Calls Tryz.prog 99 #[v, .func (.func K) ra la] w fun e w' => (∃ r : Int, e = .returned (.int .i64 r) ∧ decide (0 ≤ r) = ks.any f) ∧ Below w.heap.size w w') := sayFn_any K ra la f ks v w h hE hK
  clear hK h hE
  go_enter Tryz.func84, Tryz.ntmps84
  go_wp2_with fail
  refine HF.out.mono ?_
  rintro e w2 ⟨⟨r, rfl, hr⟩, b2⟩
  have HR : Hid (decide (0 ≤ r) = ks.any f) := hr
  clear hr
  go_wp2
  go_ret
  exact ⟨by rw [← HR.out]; rfl, b2⟩
end Go.Proofs.YtpoibhhijidobabGreatDoor

/- How far a pattern has been gone through: contracts of package pattern, fifth part. -/
namespace Go.Proofs.YtpoibhhijidobabGreatDoor
open Go.ChangeShapes Go.WideShapes Go.ChangeAt Go.RowKit
set_option linter.unusedSimpArgs false
set_option linter.unusedVariables false

/-- A course in memory, as it is read. -/
structure CoR (w : World) (g : Nat) (ks ss : List Say) : Prop where
  ex : ∃ vk vs, BlkAt g 132 [vk, vs] w ∧ KyR w vk ks ∧ KyR w vs ss
theorem CoR.kept {w w' : World} {g : Nat} {ks ss : List Say} (h : CoR w g ks ss) (hb : Below w.heap.size w w') : CoR w' g ks ss := by
  obtain ⟨vk, vs, h1, h2, h3⟩ := h.ex
  exact ⟨vk, vs, h1.kept hb, h2.kept hb, h3.kept hb⟩

set_option maxRecDepth 100000 in
set_option maxHeartbeats 4000000 in
theorem lacks_any (k : Say) (g : Nat) (ks ss : List Say) (A : Array Value) (hA : A = #[.bool k.1, .int .i64 k.2]) (w : World) (h : CoR w g ks ss) :
    Calls Tryz.prog 82 #[.pointer (some ⟨g, 0, none⟩), .agg A] w fun e w' => e = .returned (.bool (lkB ks k)) ∧ Below w.heap.size w w' := by
  obtain ⟨kb, kt⟩ := k
  obtain ⟨vk, vs, hb, hk, -⟩ := h.ex
  clear h
  go_enter Tryz.func82, Tryz.ntmps82
  go_wp2_with (refine wpList_box_blk rfl 76 _ rfl [.bool kb, .int .i64 kt] (by rw [← hA]; rfl) ?_)
  intro w1 q1 b1 s1
  replace hb := hb.kept b1
  replace hk := hk.kept b1
  obtain ⟨a, cap, rfl, -, -, -⟩ := id hk
  have d0 : w1.cell? ⟨g, 0, none⟩ = some (.slice a ks.length cap) := hb.cell 0
  have c0 : w1.cell? ⟨w.heap.size, 0, none⟩ = some (.bool kb) := q1.cell 0
  have c1 : w1.cell? ⟨w.heap.size, 1, none⟩ = some (.int .i64 kt) := q1.cell 1
  have HK : Hid (KyR w1 (.slice a ks.length cap) ks) := hk
  have HB1 : Hid (Below w.heap.size w w1.drew) := b1.drew
  clear s1 hA hb hk q1 b1
  go_wp2_with fail
  refine wpG_begin (by kernel_rfl) ?_
  refine wpG_take (i := 0) (oi := { dst := some 5, op := Op.move (Operand.tmp 0), type := 112, pos := "secrets.go:111", after := #[], guard := none }) (v := ?_) rfl (by kernel_rfl) (by kernel_rfl) (by kernel_rfl) (by rfl) ?_ ?_
  rotate_left
  · intro W hW; first | (go_simp; done) | (go_simp; with_reducible rfl)
  try simp only [Act.put, List.setIfInBounds_toArray, List.set_cons_zero, List.set_cons_succ]
  refine wpG_take (i := 1) (oi := { dst := some 6, op := Op.nilCheck (Operand.tmp 5), type := 0, pos := "secrets.go:111", after := #[{ on := 0, ground := Ground.data }], guard := none }) (v := ?_) rfl (by kernel_rfl) (by kernel_rfl) (by kernel_rfl) (by rfl) ?_ ?_
  rotate_left
  · intro W hW; first | (go_simp; done) | (go_simp; with_reducible rfl)
  try simp only [Act.put, List.setIfInBounds_toArray, List.set_cons_zero, List.set_cons_succ]
  refine wpG_take (i := 2) (oi := { dst := some 7, op := Op.fieldAddr 132 (Operand.tmp 6) 0, type := 0, pos := "secrets.go:111", after := #[{ on := 1, ground := Ground.data }], guard := none }) (v := ?_) rfl (by kernel_rfl) (by kernel_rfl) (by kernel_rfl) (by rfl) ?_ ?_
  rotate_left
  · intro W hW; first | (go_simp; done) | (go_simp; with_reducible rfl)
  try simp only [Act.put, List.setIfInBounds_toArray, List.set_cons_zero, List.set_cons_succ]
  refine wpG_take (i := 3) (oi := { dst := some 8, op := Op.load 39 (Operand.tmp 7), type := 39, pos := "secrets.go:111", after := #[{ on := 2, ground := Ground.data }], guard := none }) (v := ?_) rfl (by kernel_rfl) (by kernel_rfl) (by kernel_rfl) (by rfl) ?_ ?_
  rotate_left
  · intro W hW; have hcW := cellDK15 d0 hW; first | (go_simp; done) | (go_simp; with_reducible rfl)
  try simp only [Act.put, List.setIfInBounds_toArray, List.set_cons_zero, List.set_cons_succ]
  refine wpG_take (i := 4) (oi := { dst := some 9, op := Op.load 76 (Operand.tmp 3), type := 76, pos := "secrets.go:111", after := #[], guard := none }) (v := ?_) rfl (by kernel_rfl) (by kernel_rfl) (by kernel_rfl) (by rfl) ?_ ?_
  rotate_left
  · intro W hW; have h0 := cellDK15 c0 hW; have h1 := cellDK15 c1 hW; first | (go_simp; done) | (go_simp; with_reducible rfl)
  try simp only [Act.put, List.setIfInBounds_toArray, List.set_cons_zero, List.set_cons_succ]
  refine wpG_do (i := 5) (o := { dst := some 10, op := Op.call { callee := Callee.value (Operand.func 37), args := #[Operand.tmp 8, Operand.tmp 9], argTypes := #[39, 76] }, type := 4, pos := "secrets.go:111", after := #[{ on := 3, ground := Ground.data }, { on := 4, ground := Ground.data }], guard := none }) (by kernel_rfl) rfl (by rfl) fun K hK => ?_
  go_simp
  refine (keyIn_any (kb, kt) ks _ _ rfl _ (HK.out.kept (Below.refl _ _).drew)).mono ?_
  rintro e w2 ⟨rfl, b2⟩
  refine hK.out _ _ b2 ?_
  clear hK K
  try simp only [Act.put, List.setIfInBounds_toArray, List.set_cons_zero, List.set_cons_succ]
  refine wpG_take (i := 6) (oi := { dst := some 11, op := Op.unOp UnOp.not 4 (Operand.tmp 10), type := 4, pos := "secrets.go:111", after := #[{ on := 5, ground := Ground.data }], guard := none }) (v := ?_) rfl (by kernel_rfl) (by kernel_rfl) (by kernel_rfl) (by rfl) ?_ ?_
  rotate_left
  · intro W hW; first | (go_simp; done) | (go_simp; with_reducible rfl)
  try simp only [Act.put, List.setIfInBounds_toArray, List.set_cons_zero, List.set_cons_succ]
  refine wpG_take (i := 7) (oi := { dst := some 4, op := Op.assign (Operand.tmp 11), type := 4, pos := "secrets.go:111", after := #[{ on := 6, ground := Ground.data }, { on := 5, ground := Ground.chain }, { on := 0, ground := Ground.phase }, { on := 1, ground := Ground.phase }, { on := 2, ground := Ground.phase }, { on := 3, ground := Ground.phase }, { on := 4, ground := Ground.phase }, { on := 5, ground := Ground.phase }, { on := 6, ground := Ground.phase }], guard := none }) (v := ?_) rfl (by kernel_rfl) (by kernel_rfl) (by kernel_rfl) (by rfl) ?_ ?_
  rotate_left
  · intro W hW; first | (go_simp; done) | (go_simp; with_reducible rfl)
  try simp only [Act.put, List.setIfInBounds_toArray, List.set_cons_zero, List.set_cons_succ]
  refine wpG_done (by kernel_rfl) ?_
  have HB2 : Hid (Below w.heap.size w w2) := stepB HB1.out b2
  go_wp2
  go_ret
  exact ⟨rfl, HB2.out⟩

theorem argsR (x y : Value) : #[x] ++ #[y] ++ (#[] : Array Value) = #[x, y] := rfl
theorem argsL (x y : Value) : (#[] : Array Value) ++ #[x] ++ #[y] = #[x, y] := rfl
theorem args1 (x : Value) : (#[] : Array Value) ++ #[x] ++ #[] = #[x] := rfl

set_option maxRecDepth 100000 in
set_option maxHeartbeats 8000000 in
theorem takes_any (s : Say) (g : Nat) (ks ss : List Say) (A : Array Value) (hA : A = #[.bool s.1, .int .i64 s.2]) (w : World) (h : CoR w g ks ss) :
    Calls Tryz.prog 63 #[.pointer (some ⟨g, 0, none⟩), .agg A] w fun e w' => e = .returned (.bool (tkS (ks, ss) s)) ∧ Below w.heap.size w w' := by
  obtain ⟨b, t⟩ := s
  have HC : Hid (CoR w g ks ss) := h
  obtain ⟨R, hR⟩ : ∃ r : Bool, r = tkS (ks, ss) (b, t) := ⟨_, rfl⟩
  have HR : Hid (R = tkS (ks, ss) (b, t)) := hR
  rw [← hR]
  clear h hR
  go_enter Tryz.func63, Tryz.ntmps63
  go_wp2_with (refine wpList_box_blk rfl 69 _ rfl [.bool b, .int .i64 t] (by rw [← hA]; rfl) ?_)
  intro w1 q1 b1 s1
  have HC1 : Hid (CoR w1 g ks ss) := HC.out.kept b1
  clear s1 hA HC
  go_wp2_with (refine wpList_load_part rfl 69 _ rfl rfl [] [.bool b, .int .i64 t] [] q1 rfl rfl Tryz.underlying69 rfl infoSay2 ?_)
  refine (isSecret_any b t _ rfl _).mono ?_
  rintro e w2 ⟨rfl, b2⟩
  replace q1 := q1.kept b2
  replace b1 := stepB b1 b2
  have HC2 : Hid (CoR w2 g ks ss) := HC1.out.kept b2
  obtain ⟨z, hz⟩ : ∃ z : Bool, z = scB t := ⟨_, rfl⟩
  rw [← hz]
  have HZ : Hid (z = scB t) := hz
  clear hz HC1 b2
  cases z with
  | false =>
    have HR2 : Hid (R = lkB ks (b, t)) := by show _ = _; rw [HR.out]; unfold tkS; rw [if_pos HZ.out.symm]
    go_wp2_with (refine wpList_load_part rfl 69 _ rfl rfl [] [.bool b, .int .i64 t] [] q1 rfl rfl Tryz.underlying69 rfl infoSay2 ?_)
    refine (key_any b t _ rfl _).mono ?_
    rintro e w3 ⟨rfl, b3⟩
    replace b1 := stepB b1 b3
    have HC3 : Hid (CoR w3 g ks ss) := HC2.out.kept b3
    go_wp2_with fail
    refine (lacks_any (b, t) g ks ss _ rfl _ HC3.out).mono ?_
    rintro e w4 ⟨rfl, b4⟩
    rw [← HR2.out]
    replace b1 := stepB b1 b4
    go_wp2
    go_ret
    exact ⟨rfl, b1⟩
  | true =>
    obtain ⟨vk, vs, hb, -, hs⟩ := HC2.out.ex
    obtain ⟨a, cap, rfl, -, -, -⟩ := id hs
    have d1 : w2.cell? ⟨g, 1, none⟩ = some (.slice a ss.length cap) := hb.cell 1
    have c0 : w2.cell? ⟨w.heap.size, 0, none⟩ = some (.bool b) := q1.cell 0
    have c1 : w2.cell? ⟨w.heap.size, 1, none⟩ = some (.int .i64 t) := q1.cell 1
    have HS : Hid (KyR w2 (.slice a ss.length cap) ss) := hs
    have HB1 : Hid (Below w.heap.size w w2.drew) := b1.drew
    have HQ : Hid (BlkAt w.heap.size 69 [.bool b, .int .i64 t] w2) := q1
    clear hb hs q1 b1
    go_wp2_with fail
    refine wpG_begin (by kernel_rfl) ?_
    refine wpG_take (i := 0) (oi := { dst := some 12, op := Op.move (Operand.tmp 0), type := 112, pos := "secrets.go:118", after := #[], guard := none }) (v := ?_) rfl (by kernel_rfl) (by kernel_rfl) (by kernel_rfl) (by rfl) ?_ ?_
    rotate_left
    · intro W hW; first | (go_simp; done) | (go_simp; with_reducible rfl)
    try simp only [Act.put, List.setIfInBounds_toArray, List.set_cons_zero, List.set_cons_succ]
    refine wpG_take (i := 1) (oi := { dst := some 13, op := Op.nilCheck (Operand.tmp 12), type := 0, pos := "secrets.go:118", after := #[{ on := 0, ground := Ground.data }], guard := none }) (v := ?_) rfl (by kernel_rfl) (by kernel_rfl) (by kernel_rfl) (by rfl) ?_ ?_
    rotate_left
    · intro W hW; first | (go_simp; done) | (go_simp; with_reducible rfl)
    try simp only [Act.put, List.setIfInBounds_toArray, List.set_cons_zero, List.set_cons_succ]
    refine wpG_take (i := 2) (oi := { dst := some 14, op := Op.fieldAddr 132 (Operand.tmp 13) 1, type := 0, pos := "secrets.go:118", after := #[{ on := 1, ground := Ground.data }], guard := none }) (v := ?_) rfl (by kernel_rfl) (by kernel_rfl) (by kernel_rfl) (by rfl) ?_ ?_
    rotate_left
    · intro W hW; first | (go_simp; done) | (go_simp; with_reducible rfl)
    try simp only [Act.put, List.setIfInBounds_toArray, List.set_cons_zero, List.set_cons_succ]
    refine wpG_take (i := 3) (oi := { dst := some 15, op := Op.load 65 (Operand.tmp 14), type := 65, pos := "secrets.go:118", after := #[{ on := 2, ground := Ground.data }], guard := none }) (v := ?_) rfl (by kernel_rfl) (by kernel_rfl) (by kernel_rfl) (by rfl) ?_ ?_
    rotate_left
    · intro W hW; have hcW := cellDK15 d1 hW; first | (go_simp; done) | (go_simp; with_reducible rfl)
    try simp only [Act.put, List.setIfInBounds_toArray, List.set_cons_zero, List.set_cons_succ]
    refine wpG_take (i := 4) (oi := { dst := some 16, op := Op.load 69 (Operand.tmp 3), type := 69, pos := "secrets.go:118", after := #[], guard := none }) (v := ?_) rfl (by kernel_rfl) (by kernel_rfl) (by kernel_rfl) (by rfl) ?_ ?_
    rotate_left
    · intro W hW; have h0 := cellDK15 c0 hW; have h1 := cellDK15 c1 hW; first | (go_simp; done) | (go_simp; with_reducible rfl)
    try simp only [Act.put, List.setIfInBounds_toArray, List.set_cons_zero, List.set_cons_succ]
    refine wpG_do (i := 5) (o := { dst := some 17, op := Op.makeFunc (Fn.func 85) #[Operand.tmp 16] #[], type := 67, pos := "secrets.go:118", after := #[{ on := 4, ground := Ground.data }], guard := none }) (by kernel_rfl) rfl (by rfl) fun K hK => ?_
    go_simp
    refine hK.out _ _ (Below.refl _ _) ?_
    clear hK K
    try simp only [Act.put, List.setIfInBounds_toArray, List.set_cons_zero, List.set_cons_succ]
    refine wpG_do (i := 6) (o := { dst := some 18, op := Op.call { callee := Callee.value (Operand.func 84), args := #[Operand.tmp 15, Operand.tmp 17], argTypes := #[65, 67] }, type := 4, pos := "secrets.go:118", after := #[{ on := 3, ground := Ground.data }, { on := 5, ground := Ground.data }], guard := none }) (by kernel_rfl) rfl (by rfl) fun K hK => ?_
    go_simp
    refine (sayAny_any 85 #[.agg #[.bool b, .int .i64 t]] #[] (rpB (b, t)) ss _ _ (HS.out.kept (Below.refl _ _).drew) (fun args w => enters15 Tryz.func85 (by kernel_rfl) rfl args w) (fun k _ W _ => by rw [argsR]; exact repeats_any b k.1 t k.2 _ _ rfl rfl W)).mono ?_
    rintro e w3 ⟨rfl, b3⟩
    refine hK.out _ _ b3 ?_
    clear hK K
    try simp only [Act.put, List.setIfInBounds_toArray, List.set_cons_zero, List.set_cons_succ]
    refine wpG_done (by kernel_rfl) ?_
    have HB2 : Hid (Below w.heap.size w w3) := stepB HB1.out b3
    have HC3 : Hid (CoR w3 g ks ss) := (HC2.out.kept (Below.refl _ _).drew).kept b3
    have q1 : BlkAt w.heap.size 69 [.bool b, .int .i64 t] w3 := HQ.out.drew.kept b3
    clear b3 HC2 HB1 HQ HS c0 c1 d1
    obtain ⟨y, hy⟩ : ∃ y : Bool, y = ss.any (rpB (b, t)) := ⟨_, rfl⟩
    rw [← hy]
    have HY : Hid (y = ss.any (rpB (b, t))) := hy
    clear hy
    have hnz : ¬ scB t = false := by rw [← HZ.out]; simp
    cases y with
    | true =>
      have HR2 : Hid (R = false) := by show _ = _; rw [HR.out]; unfold tkS; rw [if_neg hnz, if_pos HY.out.symm]
      clear hnz
      go_wp2
      go_ret
      exact ⟨by rw [HR2.out]; rfl, HB2.out⟩
    | false =>
      have HR2 : Hid (R = if pkB t then !lkB ks (b, 1) || !lkB ks (b, 8) else !(scK t (!b)).any (lkB ks)) := by
        show _ = _
        rw [HR.out]
        unfold tkS
        rw [if_neg hnz, if_neg (by rw [← HY.out]; simp)]
      clear hnz
      go_wp2_with (refine wpList_load_part rfl 69 _ rfl rfl [] [.bool b, .int .i64 t] [] q1 rfl rfl Tryz.underlying69 rfl infoSay2 ?_)
      refine (ofBoth_any b t _ rfl _).mono ?_
      rintro e w4 ⟨rfl, b4⟩
      replace q1 := q1.kept b4
      have HB3 : Hid (Below w.heap.size w w4) := stepB HB2.out b4
      have HC4 : Hid (CoR w4 g ks ss) := HC3.out.kept b4
      clear b4 HC3 HB2
      obtain ⟨x, hx⟩ : ∃ x : Bool, x = pkB t := ⟨_, rfl⟩
      rw [← hx]
      rw [← hx] at HR2
      clear hx
      cases x with
      | true =>
        have HR3 : Hid (R = (!lkB ks (b, 1) || !lkB ks (b, 8))) := by show _ = _; rw [HR2.out]; rfl
        have c0 : w4.cell? ⟨w.heap.size, 0, none⟩ = some (.bool b) := q1.cell 0
        go_wp2_with fail
        refine (lacks_any (b, 1) g ks ss _ rfl _ HC4.out).mono ?_
        rintro e w5 ⟨rfl, b5⟩
        replace q1 := q1.kept b5
        have HB4 : Hid (Below w.heap.size w w5) := stepB HB3.out b5
        have HC5 : Hid (CoR w5 g ks ss) := HC4.out.kept b5
        clear b5 c0
        have c0 : w5.cell? ⟨w.heap.size, 0, none⟩ = some (.bool b) := q1.cell 0
        obtain ⟨m, hm⟩ : ∃ m : Bool, m = lkB ks (b, 1) := ⟨_, rfl⟩
        rw [← hm]
        rw [← hm] at HR3
        clear hm
        cases m with
        | false =>
          go_wp2
          go_ret
          exact ⟨by rw [HR3.out]; rfl, HB4.out⟩
        | true =>
          go_wp2_with fail
          refine (lacks_any (b, 8) g ks ss _ rfl _ HC5.out).mono ?_
          rintro e w6 ⟨rfl, b6⟩
          have HB5 : Hid (Below w.heap.size w w6) := stepB HB4.out b6
          go_wp2
          go_ret
          exact ⟨by rw [HR3.out]; rfl, HB5.out⟩
      | false =>
        have HR3 : Hid (R = !(scK t (!b)).any (lkB ks)) := by show _ = _; rw [HR2.out]; rfl
        go_wp2_with (refine wpList_load_part rfl 69 _ rfl rfl [] [.bool b, .int .i64 t] [] q1 rfl rfl Tryz.underlying69 rfl infoSay2 ?_)
        refine (guards_any b t _ rfl _).mono ?_
        rintro e w5 ⟨vg, rfl, hO⟩
        have HG : Hid (KyR w5 vg (scK t (!b))) := hO.ky rfl
        have HB4 : Hid (Below w.heap.size w w5) := stepB HB3.out hO.below
        have HC5 : Hid (CoR w5 g ks ss) := HC4.out.kept hO.below
        clear hO q1
        go_wp2_with fail
        refine (keyAny_any 82 #[.pointer (some ⟨g, 0, none⟩)] #[] (lkB ks) (scK t (!b)) vg _ HG.out (fun args w => enters15 Tryz.func82 (by kernel_rfl) rfl args w) (fun k _ W hW => by rw [argsR]; exact lacks_any k g ks ss _ rfl W (HC5.out.kept hW))).mono ?_
        rintro e w6 ⟨rfl, b6⟩
        have HB5 : Hid (Below w.heap.size w w6) := stepB HB4.out b6
        go_wp2
        go_ret
        exact ⟨by rw [HR3.out]; rfl, HB5.out⟩
end Go.Proofs.YtpoibhhijidobabGreatDoor

/- How far a pattern has been gone through, written: contracts of package pattern, sixth part. -/
namespace Go.Proofs.YtpoibhhijidobabGreatDoor
open Go.ChangeShapes Go.WideShapes Go.ChangeAt Go.RowKit
set_option linter.unusedSimpArgs false
set_option linter.unusedVariables false

/-- A course in memory, as it is written; L: other rows that were made beside it. -/
structure CoP (w0 : World) (g : Nat) (c : List Say × List Say) (L : List Rw) (w : World) : Prop where
  ex : ∃ vk vs, BlkAt g 132 [vk, vs] w ∧ OwnG w0 (⟨76, 2, vk, c.1.length, kyC c.1⟩ :: ⟨69, 2, vs, c.2.length, kyC c.2⟩ :: L) w
  ge : w0.heap.size ≤ g
  far : ∀ q ∈ L, q.ty ≠ 132
theorem CoP.kept {w0 w w' : World} {g : Nat} {c : List Say × List Say} {L : List Rw} (h : CoP w0 g c L w) (hb : Below w.heap.size w w') : CoP w0 g c L w' := by
  obtain ⟨vk, vs, h1, h2⟩ := h.ex
  exact ⟨⟨vk, vs, h1.kept hb, h2.kept hb⟩, h.ge, h.far⟩
theorem CoP.cor {w0 w : World} {g : Nat} {c : List Say × List Say} {L : List Rw} (h : CoP w0 g c L w) : CoR w g c.1 c.2 := by
  obtain ⟨vk, vs, h1, h2⟩ := h.ex
  exact ⟨vk, vs, h1, h2.ky rfl, h2.tail.ky rfl⟩
theorem CoP.below {w0 w : World} {g : Nat} {c : List Say × List Say} {L : List Rw} (h : CoP w0 g c L w) : Below w0.heap.size w0 w := by
  obtain ⟨vk, vs, h1, h2⟩ := h.ex
  exact h2.below
theorem CoP.from {w0 w1 w : World} {g : Nat} {c : List Say × List Say} {L : List Rw} (h : CoP w1 g c L w) (hb : Below w0.heap.size w0 w1) : CoP w0 g c L w := by
  obtain ⟨vk, vs, h1, h2⟩ := h.ex
  exact ⟨⟨vk, vs, h1, h2.from hb⟩, Nat.le_trans hb.size h.ge, h.far⟩
/-- What is read while a course goes on. -/
structure Cw (g o : Nat) (v : Value) (gs : Nat) (b : Bool) (t : Int) (W : World) : Prop where
  out : W.cell? ⟨g, o, none⟩ = some v
  say0 : W.cell? ⟨gs, 0, none⟩ = some (.bool b)
  say1 : W.cell? ⟨gs, 1, none⟩ = some (.int .i64 t)
theorem Cw.kept {g o : Nat} {v : Value} {gs : Nat} {b : Bool} {t : Int} {W W' : World} (h : Cw g o v gs b t W) (hb : Below W.heap.size W W') : Cw g o v gs b t W' :=
  ⟨cellKP h.out hb, cellKP h.say0 hb, cellKP h.say1 hb⟩
theorem Cw.chg {S : Nat → Prop} {g o : Nat} {v : Value} {gs : Nat} {b : Bool} {t : Int} {W W' : World} (h : Cw g o v gs b t W) (c : Chg S W W') (h1 : ¬ S g) (h2 : ¬ S gs) : Cw g o v gs b t W' :=
  ⟨cell_chg c h.out h1, cell_chg c h.say0 h2, cell_chg c h.say1 h2⟩

set_option maxRecDepth 100000 in
set_option maxHeartbeats 8000000 in
theorem add_any (s : Say) (g : Nat) (c : List Say × List Say) (L : List Rw) (A : Array Value) (hA : A = #[.bool s.1, .int .i64 s.2]) (w0 w : World) (h : CoP w0 g c L w) (hl : c.1.length + c.2.length ≤ 1000) :
    Calls Tryz.prog 64 #[.pointer (some ⟨g, 0, none⟩), .agg A] w fun e w' => e = .returned (.tuple #[]) ∧ CoP w0 g (adC c s) L w' := by
  obtain ⟨ti, hti, hz0, hz1, hz2⟩ := info_parts infoSay
  obtain ⟨tk, htk, hk0, hk1, hk2⟩ := info_parts infoKey
  obtain ⟨b, t⟩ := s
  obtain ⟨ks, ss⟩ := c
  replace hl : ks.length + ss.length ≤ 1000 := hl
  obtain ⟨vk, vs, hb, hO⟩ := h.ex
  have hge := h.ge
  have hfar := h.far
  replace hO : OwnG w0 (⟨76, 2, vk, ks.length, kyC ks⟩ :: ⟨69, 2, vs, ss.length, kyC ss⟩ :: L) w := hO
  obtain ⟨ak, ck, rfl, -, -⟩ := ky_len15 (hO.ky rfl)
  obtain ⟨sa, sc, rfl, -, -⟩ := ky_len15 (hO.tail.ky rfl)
  have HSz : Hid (w0.heap.size ≤ w.heap.size) := hO.below.size
  have HLt : Hid (g < w.heap.size) := hb.lt
  have HFk : Hid (¬ some g = (Value.slice ak ks.length ck).ownBlock ∧ ¬ some w.heap.size = (Value.slice ak ks.length ck).ownBlock) := ⟨fun e => row_not_blk (hO.rows _ (List.mem_cons_self ..)) hb (show (76 : TypeId) ≠ 132 by decide) e.symm, fun e => by have := ((hO.rows _ (List.mem_cons_self ..)).lt _ e.symm).2; omega⟩
  have HFs : Hid (¬ some g = (Value.slice sa ss.length sc).ownBlock ∧ ¬ some w.heap.size = (Value.slice sa ss.length sc).ownBlock) := ⟨fun e => row_not_blk (hO.tail.rows _ (List.mem_cons_self ..)) hb (show (69 : TypeId) ≠ 132 by decide) e.symm, fun e => by have := ((hO.tail.rows _ (List.mem_cons_self ..)).lt _ e.symm).2; omega⟩
  have HFar : Hid (∀ q ∈ L, q.ty ≠ 132) := hfar
  have HGe : Hid (w0.heap.size ≤ g) := hge
  clear h hge hfar
  go_enter Tryz.func64, Tryz.ntmps64
  go_wp2_with (refine wpList_box_blk rfl 69 _ rfl [.bool b, .int .i64 t] (by rw [← hA]; rfl) ?_)
  intro w1 q1 b1 s1
  replace hb := hb.kept b1
  replace hO := hO.kept b1
  clear s1 hA b1
  go_wp2_with (refine wpList_load_part rfl 69 _ rfl rfl [] [.bool b, .int .i64 t] [] q1 rfl rfl Tryz.underlying69 rfl infoSay2 ?_)
  refine (isSecret_any b t _ rfl _).mono ?_
  rintro e w2 ⟨rfl, b2⟩
  replace q1 := q1.kept b2
  replace hb := hb.kept b2
  replace hO := hO.kept b2
  obtain ⟨z, hz⟩ : ∃ z : Bool, z = scB t := ⟨_, rfl⟩
  rw [← hz]
  have HZ : Hid (z = scB t) := hz
  clear hz b2
  cases z with
  | true =>
    have HA : Hid (adC (ks, ss) (b, t) = (ks, ss ++ [(b, t)])) := by show _ = _; unfold adC; rw [if_pos HZ.out.symm]
    have hOd : OwnG w0 (⟨69, 2, .slice sa ss.length sc, ss.length, kyC ss⟩ :: ⟨76, 2, .slice ak ks.length ck, ks.length, kyC ks⟩ :: L) w2.drew := hO.swap.drew
    have hS : Cw g 1 (.slice sa ss.length sc) w.heap.size b t w2.drew := ⟨hb.cell 1, q1.cell 0, q1.cell 1⟩
    obtain ⟨M, hM⟩ : ∃ M : List Say, M = ss ++ [(b, t)] := ⟨_, rfl⟩
    have HM : Hid (M = ss ++ [(b, t)]) := hM
    have HLn : Hid (ss.length + 1 = M.length) := by show _ = _; rw [hM]; simp
    have HKc : Hid (kyC ss ++ [.bool b, .int .i64 t] = kyC M) := by show _ = _; rw [hM]; exact kyC_next ss b t
    rw [← hM] at HA
    have hbd := hb.drew
    clear hM q1 hb hO
    go_wp2_with fail
    refine wpV_begin 10 (Cw g 1 (.slice sa ss.length sc) w.heap.size b t) (by kernel_rfl) ?_
    refine wpV_pure (hS := (.inr hS)) (i := 0) (oi := { dst := some 6, op := Op.move (Operand.tmp 0), type := 112, pos := "secrets.go:104", after := #[], guard := none }) (v := ?_) rfl (by decide) (by kernel_rfl) (by kernel_rfl) (by kernel_rfl) (by rfl) ?_ ?_
    rotate_left
    · intro W; first | (go_simp; done) | (go_simp; with_reducible rfl)
    try simp only [Act.put, List.setIfInBounds_toArray, List.set_cons_zero, List.set_cons_succ]
    refine wpV_pure (hS := (.inr hS)) (i := 1) (oi := { dst := some 7, op := Op.move (Operand.tmp 0), type := 112, pos := "secrets.go:104", after := #[], guard := none }) (v := ?_) rfl (by decide) (by kernel_rfl) (by kernel_rfl) (by kernel_rfl) (by rfl) ?_ ?_
    rotate_left
    · intro W; first | (go_simp; done) | (go_simp; with_reducible rfl)
    try simp only [Act.put, List.setIfInBounds_toArray, List.set_cons_zero, List.set_cons_succ]
    refine wpV_pure (hS := (.inr hS)) (i := 2) (oi := { dst := some 8, op := Op.nilCheck (Operand.tmp 7), type := 0, pos := "secrets.go:104", after := #[{ on := 1, ground := Ground.data }], guard := none }) (v := ?_) rfl (by decide) (by kernel_rfl) (by kernel_rfl) (by kernel_rfl) (by rfl) ?_ ?_
    rotate_left
    · intro W; first | (go_simp; done) | (go_simp; with_reducible rfl)
    try simp only [Act.put, List.setIfInBounds_toArray, List.set_cons_zero, List.set_cons_succ]
    refine wpV_pure (hS := (.inr hS)) (i := 3) (oi := { dst := some 9, op := Op.fieldAddr 132 (Operand.tmp 8) 1, type := 0, pos := "secrets.go:104", after := #[{ on := 2, ground := Ground.data }], guard := none }) (v := ?_) rfl (by decide) (by kernel_rfl) (by kernel_rfl) (by kernel_rfl) (by rfl) ?_ ?_
    rotate_left
    · intro W; first | (go_simp; done) | (go_simp; with_reducible rfl)
    try simp only [Act.put, List.setIfInBounds_toArray, List.set_cons_zero, List.set_cons_succ]
    refine wpV_take (hS := hS) (i := 4) (oi := { dst := some 10, op := Op.load 65 (Operand.tmp 9), type := 65, pos := "secrets.go:104", after := #[{ on := 3, ground := Ground.data }], guard := none }) (v := ?_) rfl (by decide) (by kernel_rfl) (by kernel_rfl) (by kernel_rfl) (by kernel_rfl) (by kernel_rfl) (by rfl) ?_ ?_
    rotate_left
    · intro W hW; have cW := hW.out; first | (go_simp; done) | (go_simp; with_reducible rfl)
    try simp only [Act.put, List.setIfInBounds_toArray, List.set_cons_zero, List.set_cons_succ]
    refine wpV_take (hS := hS) (i := 5) (oi := { dst := some 11, op := Op.load 69 (Operand.tmp 3), type := 69, pos := "secrets.go:104", after := #[], guard := none }) (v := ?_) rfl (by decide) (by kernel_rfl) (by kernel_rfl) (by kernel_rfl) (by kernel_rfl) (by kernel_rfl) (by rfl) ?_ ?_
    rotate_left
    · intro W hW; have cW := hW.say0; have cX := hW.say1; first | (go_simp; done) | (go_simp; with_reducible rfl)
    try simp only [Act.put, List.setIfInBounds_toArray, List.set_cons_zero, List.set_cons_succ]
    refine wpV_do (i := 6) (o := { dst := some 12, op := Op.buildSlice 65 1 #[(0, Operand.tmp 11)], type := 65, pos := "secrets.go:104", after := #[{ on := 5, ground := Ground.data }], guard := none }) (by kernel_rfl) rfl (by rfl) fun K hK => ?_
    go_simp
    refine hK.out _ _ (.inr (hS.kept (growB _))) ?_
    clear hK K
    replace hS := hS.kept (growB (.cells #[.bool b, .int .i64 t] 69))
    try simp only [Act.put, List.setIfInBounds_toArray, List.set_cons_zero, List.set_cons_succ]
    refine wpV_do (i := 7) (o := { dst := some 13, op := Op.call { callee := Callee.builtin Builtin.append, args := #[Operand.tmp 10, Operand.tmp 12], argTypes := #[65, 65] }, type := 65, pos := "secrets.go:104", after := #[{ on := 4, ground := Ground.data }, { on := 6, ground := Ground.data }], guard := none }) (by kernel_rfl) rfl (by rfl) fun K hK => ?_
    refine wp_append_E _ _ 65 rfl 69 ti _ 2 16 Tryz.underlying65 hti hz0 hz1 hz2 rfl (by decide) _ ss.length (kyC ss) rfl (hOd.kept (growB _)) ⟨w2.heap.size, 0, none⟩ 1 1 [.bool b, .int .i64 t] rfl rfl (news2 _ _ rfl) (oneSay b t) (by unfold maxLen; omega) (by omega) ?_
    intro v6 w6 hO6 hC6
    rw [HKc.out, HLn.out] at hO6
    obtain ⟨a6, c6, rfl, -, -⟩ := ky_len15 (hO6.ky rfl)
    have rb6 := (hbd.kept (growB (.cells #[.bool b, .int .i64 t] 69))).chg hC6 HFs.out.1
    have c1b : w6.cell? ⟨g, 1, none⟩ = some (.slice sa ss.length sc) := rb6.cell 1
    have f1b := rb6.free 1
    refine hK.out _ _ (.inr (hS.chg hC6 HFs.out.1 HFs.out.2)) ?_
    clear hK K
    replace hS := hS.chg hC6 HFs.out.1 HFs.out.2
    try simp only [Act.put, List.setIfInBounds_toArray, List.set_cons_zero, List.set_cons_succ]
    refine wpV_pure (hS := (.inr hS)) (i := 8) (oi := { dst := some 14, op := Op.nilCheck (Operand.tmp 6), type := 0, pos := "secrets.go:104", after := #[{ on := 0, ground := Ground.data }, { on := 0, ground := Ground.phase }, { on := 1, ground := Ground.phase }, { on := 2, ground := Ground.phase }, { on := 3, ground := Ground.phase }, { on := 4, ground := Ground.phase }, { on := 5, ground := Ground.phase }, { on := 6, ground := Ground.phase }, { on := 7, ground := Ground.phase }], guard := none }) (v := ?_) rfl (by decide) (by kernel_rfl) (by kernel_rfl) (by kernel_rfl) (by rfl) ?_ ?_
    rotate_left
    · intro W; first | (go_simp; done) | (go_simp; with_reducible rfl)
    try simp only [Act.put, List.setIfInBounds_toArray, List.set_cons_zero, List.set_cons_succ]
    refine wpV_pure (hS := (.inr hS)) (i := 9) (oi := { dst := some 15, op := Op.fieldAddr 132 (Operand.tmp 14) 1, type := 0, pos := "secrets.go:104", after := #[{ on := 8, ground := Ground.data }, { on := 0, ground := Ground.phase }, { on := 1, ground := Ground.phase }, { on := 2, ground := Ground.phase }, { on := 3, ground := Ground.phase }, { on := 4, ground := Ground.phase }, { on := 5, ground := Ground.phase }, { on := 6, ground := Ground.phase }, { on := 7, ground := Ground.phase }], guard := none }) (v := ?_) rfl (by decide) (by kernel_rfl) (by kernel_rfl) (by kernel_rfl) (by rfl) ?_ ?_
    rotate_left
    · intro W; first | (go_simp; done) | (go_simp; with_reducible rfl)
    try simp only [Act.put, List.setIfInBounds_toArray, List.set_cons_zero, List.set_cons_succ]
    refine wpV_do (i := 10) (o := { dst := none, op := Op.store 65 (Operand.tmp 15) (Operand.tmp 13), type := 0, pos := "secrets.go:104", after := #[{ on := 9, ground := Ground.data }, { on := 7, ground := Ground.data }, { on := 7, ground := Ground.chain }, { on := 0, ground := Ground.phase }, { on := 1, ground := Ground.phase }, { on := 2, ground := Ground.phase }, { on := 3, ground := Ground.phase }, { on := 4, ground := Ground.phase }, { on := 5, ground := Ground.phase }, { on := 6, ground := Ground.phase }, { on := 7, ground := Ground.phase }], guard := none }) (by kernel_rfl) rfl (by rfl) fun K hK => ?_
    go_simp
    refine hK.out _ _ (.inl rfl) ?_
    clear hK K
    try simp only [Act.put, List.setIfInBounds_toArray, List.set_cons_zero, List.set_cons_succ]
    refine wpV_done (by kernel_rfl) ?_
    have r7 : BlkAt g 132 [.slice ak ks.length ck, .slice a6 M.length c6] (w6.setCell ⟨g, 1, none⟩ (.slice a6 M.length c6)) := rb6.set 1 (.slice a6 M.length c6)
    have hw7 := Wrote.set g 1 w6 (.slice a6 M.length c6)
    have hO7 := hO6.wrote hw7 HGe.out (rows_far hO6 rb6 (by
      intro q hq
      rcases List.mem_cons.1 hq with rfl | hq
      · exact (show (69 : TypeId) ≠ 132 by decide)
      · rcases List.mem_cons.1 hq with rfl | hq
        · exact (show (76 : TypeId) ≠ 132 by decide)
        · exact HFar.out q hq))
    have HF : Hid (CoP w0 g (adC (ks, ss) (b, t)) L (w6.setCell ⟨g, 1, none⟩ (.slice a6 M.length c6))) := by
      show CoP _ _ _ _ _
      rw [HA.out]
      exact ⟨⟨_, _, r7, hO7.swap⟩, HGe.out, HFar.out⟩
    clear r7 hw7 hO7 rb6 hO6 hC6 hS c1b f1b hOd hbd
    go_wp2
    refine bodyPost_ret (v := .tuple #[]) (by simp [results, Tryz.results64, go_sem]) rfl ?_
    exact ⟨rfl, HF.out⟩
  | false =>
    have HA : Hid (adC (ks, ss) (b, t) = (ks ++ [(b, t)], ss)) := by show _ = _; unfold adC; rw [if_neg (by rw [← HZ.out]; simp)]
    have hOd : OwnG w0 (⟨76, 2, .slice ak ks.length ck, ks.length, kyC ks⟩ :: ⟨69, 2, .slice sa ss.length sc, ss.length, kyC ss⟩ :: L) w2.drew := hO.drew
    have hS : Cw g 0 (.slice ak ks.length ck) w.heap.size b t w2.drew := ⟨hb.cell 0, q1.cell 0, q1.cell 1⟩
    obtain ⟨M, hM⟩ : ∃ M : List Say, M = ks ++ [(b, t)] := ⟨_, rfl⟩
    have HM : Hid (M = ks ++ [(b, t)]) := hM
    have HLn : Hid (ks.length + 1 = M.length) := by show _ = _; rw [hM]; simp
    have HKc : Hid (kyC ks ++ [.bool b, .int .i64 t] = kyC M) := by show _ = _; rw [hM]; exact kyC_next ks b t
    rw [← hM] at HA
    have hbd := hb.drew
    clear hM q1 hb hO
    go_wp2_with fail
    refine wpV_begin 11 (Cw g 0 (.slice ak ks.length ck) w.heap.size b t) (by kernel_rfl) ?_
    refine wpV_pure (hS := (.inr hS)) (i := 0) (oi := { dst := some 16, op := Op.move (Operand.tmp 0), type := 112, pos := "secrets.go:107", after := #[], guard := none }) (v := ?_) rfl (by decide) (by kernel_rfl) (by kernel_rfl) (by kernel_rfl) (by rfl) ?_ ?_
    rotate_left
    · intro W; first | (go_simp; done) | (go_simp; with_reducible rfl)
    try simp only [Act.put, List.setIfInBounds_toArray, List.set_cons_zero, List.set_cons_succ]
    refine wpV_pure (hS := (.inr hS)) (i := 1) (oi := { dst := some 17, op := Op.move (Operand.tmp 0), type := 112, pos := "secrets.go:107", after := #[], guard := none }) (v := ?_) rfl (by decide) (by kernel_rfl) (by kernel_rfl) (by kernel_rfl) (by rfl) ?_ ?_
    rotate_left
    · intro W; first | (go_simp; done) | (go_simp; with_reducible rfl)
    try simp only [Act.put, List.setIfInBounds_toArray, List.set_cons_zero, List.set_cons_succ]
    refine wpV_pure (hS := (.inr hS)) (i := 2) (oi := { dst := some 18, op := Op.nilCheck (Operand.tmp 17), type := 0, pos := "secrets.go:107", after := #[{ on := 1, ground := Ground.data }], guard := none }) (v := ?_) rfl (by decide) (by kernel_rfl) (by kernel_rfl) (by kernel_rfl) (by rfl) ?_ ?_
    rotate_left
    · intro W; first | (go_simp; done) | (go_simp; with_reducible rfl)
    try simp only [Act.put, List.setIfInBounds_toArray, List.set_cons_zero, List.set_cons_succ]
    refine wpV_pure (hS := (.inr hS)) (i := 3) (oi := { dst := some 19, op := Op.fieldAddr 132 (Operand.tmp 18) 0, type := 0, pos := "secrets.go:107", after := #[{ on := 2, ground := Ground.data }], guard := none }) (v := ?_) rfl (by decide) (by kernel_rfl) (by kernel_rfl) (by kernel_rfl) (by rfl) ?_ ?_
    rotate_left
    · intro W; first | (go_simp; done) | (go_simp; with_reducible rfl)
    try simp only [Act.put, List.setIfInBounds_toArray, List.set_cons_zero, List.set_cons_succ]
    refine wpV_take (hS := hS) (i := 4) (oi := { dst := some 20, op := Op.load 39 (Operand.tmp 19), type := 39, pos := "secrets.go:107", after := #[{ on := 3, ground := Ground.data }], guard := none }) (v := ?_) rfl (by decide) (by kernel_rfl) (by kernel_rfl) (by kernel_rfl) (by kernel_rfl) (by kernel_rfl) (by rfl) ?_ ?_
    rotate_left
    · intro W hW; have cW := hW.out; first | (go_simp; done) | (go_simp; with_reducible rfl)
    try simp only [Act.put, List.setIfInBounds_toArray, List.set_cons_zero, List.set_cons_succ]
    refine wpV_take (hS := hS) (i := 5) (oi := { dst := some 21, op := Op.load 69 (Operand.tmp 3), type := 69, pos := "secrets.go:107", after := #[], guard := none }) (v := ?_) rfl (by decide) (by kernel_rfl) (by kernel_rfl) (by kernel_rfl) (by kernel_rfl) (by kernel_rfl) (by rfl) ?_ ?_
    rotate_left
    · intro W hW; have cW := hW.say0; have cX := hW.say1; first | (go_simp; done) | (go_simp; with_reducible rfl)
    try simp only [Act.put, List.setIfInBounds_toArray, List.set_cons_zero, List.set_cons_succ]
    refine wpV_do (i := 6) (o := { dst := some 22, op := Op.call { callee := Callee.value (Operand.func 83), args := #[Operand.tmp 21], argTypes := #[69] }, type := 76, pos := "secrets.go:107", after := #[{ on := 5, ground := Ground.data }], guard := none }) (by kernel_rfl) rfl (by rfl) fun K hK => ?_
    go_simp
    refine (key_any b t _ rfl _).mono ?_
    rintro e w3 ⟨rfl, b3⟩
    refine hK.out _ _ (.inr (hS.kept b3)) ?_
    clear hK K
    replace hS := hS.kept b3
    replace hOd := hOd.kept b3
    replace hbd := hbd.kept b3
    try simp only [Act.put, List.setIfInBounds_toArray, List.set_cons_zero, List.set_cons_succ]
    refine wpV_do (i := 7) (o := { dst := some 23, op := Op.buildSlice 39 1 #[(0, Operand.tmp 22)], type := 39, pos := "secrets.go:107", after := #[{ on := 6, ground := Ground.data }], guard := none }) (by kernel_rfl) rfl (by rfl) fun K hK => ?_
    go_simp
    refine hK.out _ _ (.inr (hS.kept (growB _))) ?_
    clear hK K
    replace hS := hS.kept (growB (.cells #[.bool b, .int .i64 t] 76))
    try simp only [Act.put, List.setIfInBounds_toArray, List.set_cons_zero, List.set_cons_succ]
    refine wpV_do (i := 8) (o := { dst := some 24, op := Op.call { callee := Callee.builtin Builtin.append, args := #[Operand.tmp 20, Operand.tmp 23], argTypes := #[39, 39] }, type := 39, pos := "secrets.go:107", after := #[{ on := 4, ground := Ground.data }, { on := 7, ground := Ground.data }, { on := 6, ground := Ground.chain }], guard := none }) (by kernel_rfl) rfl (by rfl) fun K hK => ?_
    refine wp_append_E _ _ 39 rfl 76 tk _ 2 16 Tryz.underlying39 htk hk0 hk1 hk2 rfl (by decide) _ ks.length (kyC ks) rfl (hOd.kept (growB _)) ⟨w3.heap.size, 0, none⟩ 1 1 [.bool b, .int .i64 t] rfl rfl (news2 _ _ rfl) (oneSay b t) (by unfold maxLen; omega) (by omega) ?_
    intro v6 w6 hO6 hC6
    rw [HKc.out, HLn.out] at hO6
    obtain ⟨a6, c6, rfl, -, -⟩ := ky_len15 (hO6.ky rfl)
    have rb6 := (hbd.kept (growB (.cells #[.bool b, .int .i64 t] 76))).chg hC6 HFk.out.1
    have c1b : w6.cell? ⟨g, 0, none⟩ = some (.slice ak ks.length ck) := rb6.cell 0
    have f1b := rb6.free 0
    refine hK.out _ _ (.inr (hS.chg hC6 HFk.out.1 HFk.out.2)) ?_
    clear hK K
    replace hS := hS.chg hC6 HFk.out.1 HFk.out.2
    try simp only [Act.put, List.setIfInBounds_toArray, List.set_cons_zero, List.set_cons_succ]
    refine wpV_pure (hS := (.inr hS)) (i := 9) (oi := { dst := some 25, op := Op.nilCheck (Operand.tmp 16), type := 0, pos := "secrets.go:107", after := #[{ on := 0, ground := Ground.data }, { on := 0, ground := Ground.phase }, { on := 1, ground := Ground.phase }, { on := 2, ground := Ground.phase }, { on := 3, ground := Ground.phase }, { on := 4, ground := Ground.phase }, { on := 5, ground := Ground.phase }, { on := 6, ground := Ground.phase }, { on := 7, ground := Ground.phase }, { on := 8, ground := Ground.phase }], guard := none }) (v := ?_) rfl (by decide) (by kernel_rfl) (by kernel_rfl) (by kernel_rfl) (by rfl) ?_ ?_
    rotate_left
    · intro W; first | (go_simp; done) | (go_simp; with_reducible rfl)
    try simp only [Act.put, List.setIfInBounds_toArray, List.set_cons_zero, List.set_cons_succ]
    refine wpV_pure (hS := (.inr hS)) (i := 10) (oi := { dst := some 26, op := Op.fieldAddr 132 (Operand.tmp 25) 0, type := 0, pos := "secrets.go:107", after := #[{ on := 9, ground := Ground.data }, { on := 0, ground := Ground.phase }, { on := 1, ground := Ground.phase }, { on := 2, ground := Ground.phase }, { on := 3, ground := Ground.phase }, { on := 4, ground := Ground.phase }, { on := 5, ground := Ground.phase }, { on := 6, ground := Ground.phase }, { on := 7, ground := Ground.phase }, { on := 8, ground := Ground.phase }], guard := none }) (v := ?_) rfl (by decide) (by kernel_rfl) (by kernel_rfl) (by kernel_rfl) (by rfl) ?_ ?_
    rotate_left
    · intro W; first | (go_simp; done) | (go_simp; with_reducible rfl)
    try simp only [Act.put, List.setIfInBounds_toArray, List.set_cons_zero, List.set_cons_succ]
    refine wpV_do (i := 11) (o := { dst := none, op := Op.store 39 (Operand.tmp 26) (Operand.tmp 24), type := 0, pos := "secrets.go:107", after := #[{ on := 10, ground := Ground.data }, { on := 8, ground := Ground.data }, { on := 8, ground := Ground.chain }, { on := 0, ground := Ground.phase }, { on := 1, ground := Ground.phase }, { on := 2, ground := Ground.phase }, { on := 3, ground := Ground.phase }, { on := 4, ground := Ground.phase }, { on := 5, ground := Ground.phase }, { on := 6, ground := Ground.phase }, { on := 7, ground := Ground.phase }, { on := 8, ground := Ground.phase }], guard := none }) (by kernel_rfl) rfl (by rfl) fun K hK => ?_
    go_simp
    refine hK.out _ _ (.inl rfl) ?_
    clear hK K
    try simp only [Act.put, List.setIfInBounds_toArray, List.set_cons_zero, List.set_cons_succ]
    refine wpV_done (by kernel_rfl) ?_
    have r7 : BlkAt g 132 [.slice a6 M.length c6, .slice sa ss.length sc] (w6.setCell ⟨g, 0, none⟩ (.slice a6 M.length c6)) := rb6.set 0 (.slice a6 M.length c6)
    have hw7 := Wrote.set g 0 w6 (.slice a6 M.length c6)
    have hO7 := hO6.wrote hw7 HGe.out (rows_far hO6 rb6 (by
      intro q hq
      rcases List.mem_cons.1 hq with rfl | hq
      · exact (show (76 : TypeId) ≠ 132 by decide)
      · rcases List.mem_cons.1 hq with rfl | hq
        · exact (show (69 : TypeId) ≠ 132 by decide)
        · exact HFar.out q hq))
    have HF : Hid (CoP w0 g (adC (ks, ss) (b, t)) L (w6.setCell ⟨g, 0, none⟩ (.slice a6 M.length c6))) := by
      show CoP _ _ _ _ _
      rw [HA.out]
      exact ⟨⟨_, _, r7, hO7⟩, HGe.out, HFar.out⟩
    clear r7 hw7 hO7 rb6 hO6 hC6 hS c1b f1b hOd hbd
    go_wp2
    refine bodyPost_end (v := .tuple #[]) (by simp [results, Tryz.results64, go_sem]) rfl ?_
    exact ⟨rfl, HF.out⟩
end Go.Proofs.YtpoibhhijidobabGreatDoor

/- Whether each token may be said where it stands: contracts of package pattern, seventh part. -/
namespace Go.Proofs.YtpoibhhijidobabGreatDoor
open Go.ChangeShapes Go.WideShapes Go.ChangeAt Go.RowKit
set_option linter.unusedSimpArgs false
set_option linter.unusedVariables false

/-- Of whom the key is known, of the first i sides. -/
def knT (p : Ptn) : Nat → List Say
  | 0 => []
  | 1 => if p.ki then [(true, 2)] else []
  | _ => knL p
theorem knL_len (p : Ptn) : (knL p).length ≤ 2 := by
  unfold knL
  cases p.ki <;> cases p.kr <;> simp
theorem knT_len (p : Ptn) : ∀ k, (knT p k, ([] : List Say)).1.length + (knT p k, ([] : List Say)).2.length ≤ 1000
  | 0 => by simp [knT]
  | 1 => by show (if p.ki then _ else _ : List Say).length + 0 ≤ 1000; cases p.ki <;> simp
  | k + 2 => by have := knL_len p; show (knL p).length + 0 ≤ 1000; omega
theorem build_co (w : World) : (Instr.build 132 #[]).run Tryz.prog w = .ok (.agg #[.slice none 0 0, .slice none 0 0]) w := by kernel_rfl
theorem build_two (w : World) : (Instr.build 133 #[(0, .agg #[.bool true, .int .i64 2]), (1, .agg #[.bool false, .int .i64 2])]).run Tryz.prog w = .ok (.agg #[.bool true, .int .i64 2, .bool false, .int .i64 2]) w := by kernel_rfl
theorem idx_two0 (w : World) : (Instr.index 133 (.agg #[.bool true, .int .i64 2, .bool false, .int .i64 2]) (.int .i64 0)).run Tryz.prog w = .ok (.agg #[.bool true, .int .i64 2]) w := by kernel_rfl
theorem idx_two1 (w : World) : (Instr.index 133 (.agg #[.bool true, .int .i64 2, .bool false, .int .i64 2]) (.int .i64 1)).run Tryz.prog w = .ok (.agg #[.bool false, .int .i64 2]) w := by kernel_rfl
theorem paC_at {w : World} {g : Nat} {p : Ptn} {vm : Value} (h : BlkAt g 25 (paC p vm) w) : w.cell? ⟨g, 1, none⟩ = some (.bool p.ki) ∧ w.cell? ⟨g, 2, none⟩ = some (.bool p.kr) := ⟨h.cell 1, h.cell 2⟩

set_option maxRecDepth 100000 in
set_option maxHeartbeats 8000000 in
theorem begun_any (p : Ptn) (vm : Value) (A : Array Value) (hA : A = (paC p vm).toArray) (w : World) :
    Calls Tryz.prog 62 #[.agg A] w fun e w' => ∃ g, e = .returned (.pointer (some ⟨g, 0, none⟩)) ∧ CoP w g (knL p, []) [] w' := by
  go_enter Tryz.func62, Tryz.ntmps62
  go_wp2_with (refine wpList_box_blk rfl 25 _ rfl (paC p vm) (by rw [← hA]; rfl) ?_)
  intro w1 r1 b1 s1
  have HP : Hid (w1.cell? ⟨w.heap.size, 1, none⟩ = some (.bool p.ki) ∧ w1.cell? ⟨w.heap.size, 2, none⟩ = some (.bool p.kr)) := paC_at r1
  have HB1 : Hid (Below w.heap.size w w1) := b1
  clear r1 b1 s1 hA
  have bc := build_co w1
  have b2 := fun w => build_two w
  have hC0 : CoP w1 w1.heap.size (knT p 0, []) [] (w1.alloc (.cells #[.slice none 0 0, .slice none 0 0] 132)) := by
    refine ⟨⟨.slice none 0 0, .slice none 0 0, BlkAt.fresh rfl rfl, ?_⟩, Nat.le_refl _, by intro q hq; cases hq⟩
    exact ((((OwnG.start w1).nil 69 2).nil 76 2).kept (growB _))
  obtain ⟨g, hg⟩ : ∃ g : Nat, g = w1.heap.size := ⟨_, rfl⟩
  rw [← hg] at hC0
  have HG : Hid (g = w1.heap.size) := hg
  go_wp2
  rw [← hg]
  clear hg bc b2
  go_loopw [11] (fun iv wx => ∃ i : Nat, i ≤ 2 ∧ iv = .int .i64 (i : Int) ∧ CoP w1 g (knT p i, []) [] wx) (fun iv _ => 2 - (intOf iv).toNat)
  case atStart => exact ⟨0, by omega, rfl, hC0⟩
  case round =>
    obtain ⟨i, hi, rfl, hC⟩ := hrel
    clear hC0
    have k1 := cellKP HP.out.1 hC.below
    have k2 := cellKP HP.out.2 hC.below
    have HC : Hid (CoP w1 g (knT p i, []) [] wr) := hC
    clear hC
    have hi3 : i = 0 ∨ i = 1 ∨ i = 2 := by omega
    rcases hi3 with rfl | rfl | rfl
    · have ix := fun w => idx_two0 w
      obtain ⟨kb, hkb⟩ : ∃ b : Bool, b = p.ki := ⟨_, rfl⟩
      rw [← hkb] at k1
      have HK : Hid (kb = p.ki) := hkb
      clear hkb
      go_wp2_with (refine wpList_alloc_blk rfl 69 rfl [.bool false, .int .i64 0] (allocSay _) ?_)
      intro w2 r2 b2 s2
      have HC2 : Hid (CoP w1 g (knT p 0, []) [] w2) := HC.out.kept b2
      have l2 := cellKP k1 b2
      have hwl : w.heap.size < w2.heap.size := World.block_lt_of_cell? _ _ l2
      have HNe : Hid (g < wr.heap.size ∧ w.heap.size < wr.heap.size) := ⟨by obtain ⟨_, _, h1, _⟩ := HC.out.ex; exact h1.lt, World.block_lt_of_cell? _ _ k1⟩
      have HOw : Hid (∀ vk vs : Value, OwnG w1 [⟨76, 2, vk, (knT p 0).length, kyC (knT p 0)⟩, ⟨69, 2, vs, 0, kyC []⟩] wr → ∀ q ∈ ([⟨76, 2, vk, (knT p 0).length, kyC (knT p 0)⟩, ⟨69, 2, vs, 0, kyC []⟩] : List Rw), ∀ b, q.v.ownBlock = some b → b ≠ wr.heap.size) := fun vk vs h q hq b hb => by have := h.lt q hq b hb; omega
      clear s2 k1 k2
      go_wp2_with (refine wpList_store_part rfl 69 _ _ rfl rfl [.bool true, .int .i64 2] rfl [] [.bool false, .int .i64 0] [] [.bool true, .int .i64 2] r2 rfl rfl rfl rfl infoSay2 (oneSayA true 2) ?_)
      intro w3 r3 hw3
      have HC3 : Hid (CoP w1 g (knT p 0, []) [] w3) := by
        obtain ⟨vk, vs, h1, h2⟩ := HC.out.ex
        refine ⟨⟨vk, vs, (h1.kept b2).wrote hw3 (by have := HNe.out.1; omega), (h2.kept b2).wrote hw3 h2.below.size (HOw.out vk vs h2)⟩, HC.out.ge, HC.out.far⟩
      have l3 : w3.cell? ⟨w.heap.size, 1, none⟩ = some (.bool kb) := by
        have := hw3.other w.heap.size (by have := HNe.out.2; omega)
        unfold World.cell? at l2 ⊢
        rw [this]
        exact l2
      have c0 : w3.cell? ⟨wr.heap.size, 0, none⟩ = some (.bool true) := r3.cell 0
      clear r2 b2 hw3 l2 HC HC2 HOw hwl
      go_wp2_with fail
      refine (sideOf_any true _).mono ?_
      rintro e w3 ⟨rfl, rfl⟩
      cases kb with
      | true =>
        go_wp2_with (refine wpList_load_part rfl 69 _ rfl rfl [] [.bool true, .int .i64 2] [] r3 rfl rfl Tryz.underlying69 rfl infoSay2 ?_)
        refine (add_any (true, 2) g _ [] _ rfl w1 _ HC3.out (knT_len p 0)).mono ?_
        rintro e w4 ⟨rfl, hC4⟩
        have hC5 : CoP w1 g (knT p 1, []) [] w4 := by
          have e : adC (knT p 0, []) (true, 2) = (knT p 1, []) := by
            have := HK.out
            unfold adC
            rw [if_neg (by decide)]
            simp [knT, knL, ← this]
          rw [← e]
          exact hC4
        clear hC4 HC3 r3 c0 l3
        go_wp2
        go_roundw
        case rel => exact ⟨1, by omega, by go_num, hC5⟩
        case measure => simp [intOf]
      | false =>
        have hC5 : CoP w1 g (knT p 1, []) [] w3 := by
          have e : knT p 1 = knT p 0 := by
            have := HK.out
            simp [knT, knL, ← this]
          rw [e]
          exact HC3.out
        clear HC3 r3 c0
        go_wp2
        go_roundw
        case rel => exact ⟨1, by omega, by go_num, hC5⟩
        case measure => simp [intOf]
    · have ix := fun w => idx_two1 w
      obtain ⟨kb, hkb⟩ : ∃ b : Bool, b = p.kr := ⟨_, rfl⟩
      rw [← hkb] at k2
      have HK : Hid (kb = p.kr) := hkb
      clear hkb
      go_wp2_with (refine wpList_alloc_blk rfl 69 rfl [.bool false, .int .i64 0] (allocSay _) ?_)
      intro w2 r2 b2 s2
      have HC2 : Hid (CoP w1 g (knT p 1, []) [] w2) := HC.out.kept b2
      have l2 := cellKP k2 b2
      have hwl : w.heap.size < w2.heap.size := World.block_lt_of_cell? _ _ l2
      have HNe : Hid (g < wr.heap.size ∧ w.heap.size < wr.heap.size) := ⟨by obtain ⟨_, _, h1, _⟩ := HC.out.ex; exact h1.lt, World.block_lt_of_cell? _ _ k2⟩
      have HOw : Hid (∀ vk vs : Value, OwnG w1 [⟨76, 2, vk, (knT p 1).length, kyC (knT p 1)⟩, ⟨69, 2, vs, 0, kyC []⟩] wr → ∀ q ∈ ([⟨76, 2, vk, (knT p 1).length, kyC (knT p 1)⟩, ⟨69, 2, vs, 0, kyC []⟩] : List Rw), ∀ b, q.v.ownBlock = some b → b ≠ wr.heap.size) := fun vk vs h q hq b hb => by have := h.lt q hq b hb; omega
      clear s2 k1 k2
      go_wp2_with (refine wpList_store_part rfl 69 _ _ rfl rfl [.bool false, .int .i64 2] rfl [] [.bool false, .int .i64 0] [] [.bool false, .int .i64 2] r2 rfl rfl rfl rfl infoSay2 (oneSayA false 2) ?_)
      intro w3 r3 hw3
      have HC3 : Hid (CoP w1 g (knT p 1, []) [] w3) := by
        obtain ⟨vk, vs, h1, h2⟩ := HC.out.ex
        refine ⟨⟨vk, vs, (h1.kept b2).wrote hw3 (by have := HNe.out.1; omega), (h2.kept b2).wrote hw3 h2.below.size (HOw.out vk vs h2)⟩, HC.out.ge, HC.out.far⟩
      have l3 : w3.cell? ⟨w.heap.size, 2, none⟩ = some (.bool kb) := by
        have := hw3.other w.heap.size (by have := HNe.out.2; omega)
        unfold World.cell? at l2 ⊢
        rw [this]
        exact l2
      have c0 : w3.cell? ⟨wr.heap.size, 0, none⟩ = some (.bool false) := r3.cell 0
      clear r2 b2 hw3 l2 HC HC2 HOw hwl
      go_wp2_with fail
      refine (sideOf_any false _).mono ?_
      rintro e w3 ⟨rfl, rfl⟩
      cases kb with
      | true =>
        go_wp2_with (refine wpList_load_part rfl 69 _ rfl rfl [] [.bool false, .int .i64 2] [] r3 rfl rfl Tryz.underlying69 rfl infoSay2 ?_)
        refine (add_any (false, 2) g _ [] _ rfl w1 _ HC3.out (knT_len p 1)).mono ?_
        rintro e w4 ⟨rfl, hC4⟩
        have hC5 : CoP w1 g (knT p 2, []) [] w4 := by
          have e : adC (knT p 1, []) (false, 2) = (knT p 2, []) := by
            have := HK.out
            unfold adC
            rw [if_neg (by decide)]
            simp [knT, knL, ← this]
          rw [← e]
          exact hC4
        clear hC4 HC3 r3 c0 l3
        go_wp2
        go_roundw
        case rel => exact ⟨2, by omega, by go_num, hC5⟩
        case measure => simp [intOf]
      | false =>
        have hC5 : CoP w1 g (knT p 2, []) [] w3 := by
          have e : knT p 2 = knT p 1 := by
            have := HK.out
            simp [knT, knL, ← this]
          rw [e]
          exact HC3.out
        clear HC3 r3 c0
        go_wp2
        go_roundw
        case rel => exact ⟨2, by omega, by go_num, hC5⟩
        case measure => simp [intOf]
    · have hC9 : CoP w g (knL p, []) [] wr := HC.out.from HB1.out
      go_wp2
      go_ret
      exact ⟨_, rfl, hC9⟩
end Go.Proofs.YtpoibhhijidobabGreatDoor

/- Whether a pattern may be: contracts of package pattern, eighth part. -/
namespace Go.Proofs.YtpoibhhijidobabGreatDoor
open Go.ChangeShapes Go.WideShapes Go.ChangeAt Go.RowKit
set_option linter.unusedSimpArgs false
set_option linter.unusedVariables false

/-- A variable of one's own is made and written. -/
theorem CoP.var {w0 w w2 w3 : World} {g : Nat} {c : List Say × List Say} {L : List Rw} (h : CoP w0 g c L w) (b : Below w.heap.size w w2) (hw : Wrote w.heap.size w2 w3) : CoP w0 g c L w3 := by
  obtain ⟨vk, vs, h1, h2⟩ := h.ex
  exact ⟨⟨vk, vs, (h1.kept b).wrote hw (by have := h1.lt; omega), (h2.kept b).wrote hw h2.below.size (fun q hq b hb => by have := h2.lt q hq b hb; omega)⟩, h.ge, h.far⟩
theorem perm3 (x y r : Rw) : [x, y, r].Perm [r, x, y] := List.perm_append_comm (l₁ := [x, y]) (l₂ := [r])
theorem CoP.row {w0 w w' : World} {g : Nat} {c : List Say × List Say} {r : Rw} (h : CoP w0 g c [] w) (hO : OwnG w [r] w') (hr : r.ty ≠ 132) : CoP w0 g c [r] w' := by
  obtain ⟨vk, vs, h1, h2⟩ := h.ex
  refine ⟨⟨vk, vs, h1.kept hO.below, ?_⟩, h.ge, by intro q hq; rcases List.mem_cons.1 hq with rfl | hq; exact hr; cases hq⟩
  have h3 := h2.fresh (p := r) (hO.rows r (List.mem_cons_self ..)) hO.below
  exact h3.perm (perm3 _ _ _)
theorem CoP.ky {w0 w : World} {g : Nat} {c : List Say × List Say} {ty : TypeId} {v : Value} {l : List Say} (h : CoP w0 g c [⟨ty, 2, v, l.length, kyC l⟩] w) : KyR w v l := by
  obtain ⟨vk, vs, h1, h2⟩ := h.ex
  exact h2.tail.tail.ky rfl
theorem io_false {p : Ptn} {j : Nat} (hj : j < (syL p).length) (h : tkS (crS (knL p, []) ((syL p).take j)) ((syL p).getD j (false, 0)) = false) : ioB p = false := by
  unfold ioB
  rw [List.all_eq_false]
  exact ⟨j, List.mem_range.2 hj, by rw [h]; simp⟩
theorem io_true {p : Ptn} (h : ∀ j, j < (syL p).length → tkS (crS (knL p, []) ((syL p).take j)) ((syL p).getD j (false, 0)) = true) : ioB p = true := by
  unfold ioB
  rw [List.all_eq_true]
  intro j hj
  exact h j (List.mem_range.1 hj)

set_option maxRecDepth 100000 in
set_option maxHeartbeats 8000000 in
theorem inOrder_any (p : Ptn) (vm : Value) (A : Array Value) (hA : A = (paC p vm).toArray) (hS : PtS p) (w : World) (h : MsR w vm p) :
    Calls Tryz.prog 43 #[.agg A] w fun e w' => e = .returned (.bool (ioB p)) ∧ Below w.heap.size w w' := by
  have HM : Hid (MsR w vm p) := h
  have HS : Hid (PtS p) := hS
  clear h hS
  go_enter Tryz.func43, Tryz.ntmps43
  go_wp2_with (refine wpList_box_blk rfl 25 _ rfl (paC p vm) (by rw [← hA]; rfl) ?_)
  intro w1 r1 b1 s1
  have HM1 : Hid (MsR w1 vm p) := HM.out.kept b1
  have HB1 : Hid (Below w.heap.size w w1) := b1
  clear b1 s1 hA HM
  go_wp2_with (refine wpList_load_part rfl 25 _ rfl rfl [] (paC p vm) [] r1 (whole15 _) rfl Tryz.underlying25 rfl (paInfo p vm) ?_)
  refine (begun_any p vm _ rfl _).mono ?_
  rintro e w2 ⟨g, rfl, hC⟩
  replace r1 := r1.kept hC.below
  have HM2 : Hid (MsR w2 vm p) := HM1.out.kept hC.below
  have HC2 : Hid (CoP w1 g (knL p, []) [] w2) := hC
  clear hC HM1
  go_wp2_with (refine wpList_load_part rfl 25 _ rfl rfl [] (paC p vm) [] r1 (whole15 _) rfl Tryz.underlying25 rfl (paInfo p vm) ?_)
  refine (sayings_any p vm _ rfl HS.out _ HM2.out).mono ?_
  rintro e w3 ⟨v, rfl, hO⟩
  have hC3 : CoP w1 g (knL p, []) [⟨69, 2, v, (syL p).length, kyC (syL p)⟩] w3 := HC2.out.row hO (show (69 : TypeId) ≠ 132 by decide)
  obtain ⟨a, cap, rfl, hl1, hl2⟩ := ky_len15 (hO.ky rfl)
  obtain ⟨N, hN⟩ : ∃ N : Nat, N = (syL p).length := ⟨_, rfl⟩
  have HN : Hid (N = (syL p).length) := hN
  have hNb : N ≤ 96 := by rw [hN]; exact syL_len HS.out
  rw [← hN] at hl1 ⊢
  have hC4 : CoP w1 g (crS (knL p, []) ((syL p).take 0)) [⟨69, 2, .slice a N cap, (syL p).length, kyC (syL p)⟩] w3 := by rw [← hN] at hC3; rw [← hN]; exact hC3
  unfold maxLen at hl2
  clear hO hC3 HC2 HM2 r1 hN
  go_wp2
  go_loopw [11] (fun iv wx => ∃ i : Nat, i ≤ N ∧ iv = .int .i64 (i : Int) ∧ Hid (∀ j, j < i → tkS (crS (knL p, []) ((syL p).take j)) ((syL p).getD j (false, 0)) = true) ∧ CoP w1 g (crS (knL p, []) ((syL p).take i)) [⟨69, 2, .slice a N cap, (syL p).length, kyC (syL p)⟩] wx) (fun iv _ => N - (intOf iv).toNat)
  case atStart => exact ⟨0, by omega, rfl, (by show ∀ j, _; intro j hj; omega), hC4⟩
  case round =>
    obtain ⟨i, hi, rfl, HI, hC⟩ := hrel
    clear hC4
    by_cases hlt : i < N
    · have hd : decide ((i : Int) < (N : Int)) = true := decide_eq_true (by omega)
      have hiI : (i : Int) < (N : Int) := by omega
      have HIn : Hid (i < (syL p).length) := by show _ < _; rw [← HN.out]; exact hlt
      obtain ⟨b, off, rfl, g1, g2⟩ := hC.ky.at HIn.out
      obtain ⟨x, hx⟩ : ∃ x : Say, x = (syL p).getD i (false, 0) := ⟨_, rfl⟩
      rw [← hx] at g1 g2
      have HX : Hid (x = (syL p).getD i (false, 0)) := hx
      obtain ⟨c, hc⟩ : ∃ c, c = crS (knL p, []) ((syL p).take i) := ⟨_, rfl⟩
      rw [← hc] at hC
      have HCe : Hid (c = crS (knL p, []) ((syL p).take i)) := hc
      obtain ⟨xb, xt⟩ := x
      have hrg := range_two g1 g2
      have HC : Hid _ := hC
      clear hx g1 g2 hc hC
      go_wp2_with (first
        | refine wpList_load_mid rfl 69 _ rfl b (off + i * 2) rfl [.bool xb, .int .i64 xt] _ hrg Tryz.underlying69 rfl infoSay2 ?_
        | refine wpList_alloc_blk rfl 69 rfl [.bool false, .int .i64 0] (allocSay _) ?_)
      intro w4 r4 b4 s4
      go_wp2_with (refine wpList_store_part rfl 69 _ _ rfl rfl [.bool xb, .int .i64 xt] rfl [] [.bool false, .int .i64 0] [] [.bool xb, .int .i64 xt] r4 rfl rfl rfl rfl infoSay2 (oneSayA xb xt) ?_)
      intro w5 r5 hw5
      have hC5 := CoP.var HC.out b4 hw5
      clear r4 b4 s4 hw5 HC hrg
      go_wp2_with (refine wpList_load_part rfl 69 _ rfl rfl [] [.bool xb, .int .i64 xt] [] r5 rfl rfl Tryz.underlying69 rfl infoSay2 ?_)
      refine (takes_any (xb, xt) g c.1 c.2 _ rfl _ hC5.cor).mono ?_
      rintro e w6 ⟨rfl, b6⟩
      replace r5 := r5.kept b6
      have hC6 := hC5.kept b6
      obtain ⟨y, hy⟩ : ∃ y : Bool, y = tkS (c.1, c.2) (xb, xt) := ⟨_, rfl⟩
      rw [← hy]
      have HY : Hid (y = tkS (crS (knL p, []) ((syL p).take i)) ((syL p).getD i (false, 0))) := by show _ = _; rw [← HX.out, ← HCe.out]; exact hy
      clear hy b6 hC5
      cases y with
      | false =>
        have HF : Hid (ioB p = false) := io_false HIn.out HY.out.symm
        have HB6 : Hid (Below w.heap.size w w6) := stepB HB1.out hC6.below
        clear hC6
        go_wp2
        go_ret
        exact ⟨by rw [HF.out]; rfl, HB6.out⟩
      | true =>
        have HLn : Hid (c.1.length + c.2.length ≤ 1000) := by
          show _ ≤ _
          rw [HCe.out, crS_len, List.length_take]
          have := knL_len p
          omega
        have HC6 : Hid (CoP w1 g c [⟨69, 2, .slice (some ⟨b, off, none⟩) N cap, (syL p).length, kyC (syL p)⟩] w6) := hC6
        clear hC6
        go_wp2_with (refine wpList_load_part rfl 69 _ rfl rfl [] [.bool xb, .int .i64 xt] [] r5 rfl rfl Tryz.underlying69 rfl infoSay2 ?_)
        refine (add_any (xb, xt) g c _ _ rfl w1 _ HC6.out HLn.out).mono ?_
        rintro e w7 ⟨rfl, hC7⟩
        have hC8 : CoP w1 g (crS (knL p, []) ((syL p).take (i + 1))) [⟨69, 2, .slice (some ⟨b, off, none⟩) N cap, (syL p).length, kyC (syL p)⟩] w7 := by
          rw [crS_next _ _ _ HIn.out, ← HCe.out, ← HX.out]
          exact hC7
        have HI2 : Hid (∀ j, j < i + 1 → tkS (crS (knL p, []) ((syL p).take j)) ((syL p).getD j (false, 0)) = true) := by
          show ∀ j, _
          intro j hj
          rcases Nat.lt_or_ge j i with h | h
          · exact HI.out j h
          · rw [show j = i by omega]; exact HY.out.symm
        clear hC7 HC6 r5
        go_wp2
        go_roundw
        case rel => exact ⟨i + 1, by omega, by go_num, HI2, hC8⟩
        case measure => simp [intOf] <;> omega
    · have hd : decide ((i : Int) < (N : Int)) = false := decide_eq_false (by omega)
      have hiI : (N : Int) ≤ (i : Int) := by omega
      have HO : Hid (ioB p = true) := io_true fun j hj => HI.out j (by rw [← HN.out] at hj; omega)
      have HB6 : Hid (Below w.heap.size w wr) := stepB HB1.out hC.below
      clear hC
      go_wp2
      go_ret
      exact ⟨by rw [HO.out]; rfl, HB6.out⟩

/-- What Check tells. -/
def ckA (p : Ptn) : Int := if wrB p then (if tnB p && ioB p then 0 else 21) else 1

set_option maxRecDepth 100000 in
set_option maxHeartbeats 4000000 in
theorem check_any (p : Ptn) (vm : Value) (A : Array Value) (hA : A = (paC p vm).toArray) (hnm : p.name.length ≤ maxLen) (w : World) (h : MsR w vm p) :
    Calls Tryz.prog 16 #[.agg A] w fun e w' => e = .returned (.int .i64 (ckA p)) ∧ Below w.heap.size w w' := by
  obtain ⟨R, hR⟩ : ∃ r : Int, r = ckA p := ⟨_, rfl⟩
  have HR : Hid (R = if wrB p then (if tnB p && ioB p then 0 else 21) else 1) := hR
  rw [← hR]
  have HM : Hid (MsR w vm p) := h
  have HNm : Hid (p.name.length ≤ maxLen) := hnm
  clear h hR hnm
  go_enter Tryz.func16, Tryz.ntmps16
  go_wp2_with (refine wpList_box_blk rfl 25 _ rfl (paC p vm) (by rw [← hA]; rfl) ?_)
  intro w1 r1 b1 s1
  have HM1 : Hid (MsR w1 vm p) := HM.out.kept b1
  clear s1 hA HM
  go_wp2_with (refine wpList_load_part rfl 25 _ rfl rfl [] (paC p vm) [] r1 (whole15 _) rfl Tryz.underlying25 rfl (paInfo p vm) ?_)
  refine (writable_any p vm _ rfl HNm.out _ HM1.out).mono ?_
  rintro e w2 ⟨rfl, b2⟩
  replace r1 := r1.kept b2
  have HM2 : Hid (MsR w2 vm p) := HM1.out.kept b2
  replace b1 := stepB b1 b2
  obtain ⟨y, hy⟩ : ∃ y : Bool, y = wrB p := ⟨_, rfl⟩
  rw [← hy]
  have HY : Hid (y = wrB p) := hy
  clear hy b2 HM1
  cases y with
  | false =>
    have HF : Hid (R = 1) := by show _ = _; rw [HR.out, if_neg (by rw [← HY.out]; simp)]
    go_wp2
    go_ret
    exact ⟨by rw [HF.out]; rfl, b1⟩
  | true =>
    have HR2 : Hid (R = if tnB p && ioB p then 0 else 21) := by show _ = _; rw [HR.out, if_pos HY.out.symm]
    have c3 : w2.cell? ⟨w.heap.size, 3, none⟩ = some vm := r1.cell 3
    obtain ⟨a, cap, rfl, hl, hm, -⟩ := id HM2.out.form
    go_wp2_with fail
    refine (byTurns_any p _ _ HM2.out).mono ?_
    rintro e w3 ⟨rfl, b3⟩
    replace r1 := r1.kept b3
    have HM3 : Hid (MsR w3 (.slice a p.n cap) p) := HM2.out.kept b3
    replace b1 := stepB b1 b3
    obtain ⟨z, hz⟩ : ∃ z : Bool, z = tnB p := ⟨_, rfl⟩
    rw [← hz]
    rw [← hz] at HR2
    clear hz b3 HM2 c3
    cases z with
    | false =>
      have HF : Hid (R = 21) := by show _ = _; rw [HR2.out]; rfl
      go_wp2
      go_ret
      exact ⟨by rw [HF.out]; rfl, b1⟩
    | true =>
      go_wp2_with (refine wpList_loadG 25 _ rfl rfl (paC p (.slice a p.n cap)) r1 Tryz.underlying25 rfl (paInfo p _) (by go_simp; done) ?_)
      refine (inOrder_any p _ _ rfl (PtS.of HY.out.symm) _ HM3.out).mono ?_
      rintro e w4 ⟨rfl, b4⟩
      replace b1 := stepB b1 b4
      obtain ⟨x, hx⟩ : ∃ x : Bool, x = ioB p := ⟨_, rfl⟩
      rw [← hx]
      rw [← hx] at HR2
      clear hx b4 r1
      cases x with
      | false =>
        have HF : Hid (R = 21) := by show _ = _; rw [HR2.out]; rfl
        go_wp2
        go_ret
        exact ⟨by rw [HF.out]; rfl, b1⟩
      | true =>
        have HF : Hid (R = 0) := by show _ = _; rw [HR2.out]; rfl
        go_wp2
        go_ret
        exact ⟨by rw [HF.out]; rfl, b1⟩
end Go.Proofs.YtpoibhhijidobabGreatDoor

/- That a course over what is said comes to the document's rules: plain mathematics. No program's text is named. -/
namespace Go.Proofs.YtpoibhhijidobabGreatDoor
set_option linter.unusedSimpArgs false
set_option linter.unusedVariables false

theorem anyOr {α : Type} (f g : α → Bool) (l : List α) : (l.any fun x => f x || g x) = (l.any f || l.any g) := by
  induction l with
  | nil => rfl
  | cons x l ih => simp only [List.any_cons, ih]; cases f x <;> cases g x <;> cases l.any f <;> cases l.any g <;> rfl
theorem anyCongr {α : Type} (f g : α → Bool) (l : List α) (h : ∀ x, f x = g x) : l.any f = l.any g := by
  have : f = g := funext h
  rw [this]
theorem anyFilter {α : Type} (f g : α → Bool) (l : List α) : (l.filter f).any g = l.any fun x => f x && g x := by
  induction l with
  | nil => rfl
  | cons x l ih => cases h : f x <;> simp [h, ih]
theorem sayEq (x : Say) (b : Bool) (t : Int) : (x == (b, t)) = (decide (x.1 = b) && decide (x.2 = t)) := by
  obtain ⟨y, z⟩ := x
  show ((y == b) && (z == t)) = _
  congr 1 <;> (rw [Bool.eq_iff_iff]; simp)
theorem syR_any (p : Ptn) (b : Bool) (t : Int) (i : Nat) : ∀ j, j ≤ (p.tk i).length → ((syR p i j).any fun q => q == (b, t)) = decide (0 < saR p b t i j)
  | 0, _ => by
    show false = _
    unfold saR
    split <;> rfl
  | j + 1, h => by
    rw [syR_next p i j (by omega), saR_next, List.any_append, syR_any p b t i j (by omega)]
    simp only [List.any_cons, List.any_nil, Bool.or_false]
    rw [sayEq]
    by_cases h1 : p.ini i = b ∧ (p.tk i).getD j 0 = t
    · rw [if_pos h1, decide_eq_true h1.1, decide_eq_true h1.2]
      simp
    · rw [if_neg h1]
      have : (decide (p.ini i = b) && decide ((p.tk i).getD j 0 = t)) = false := by
        rw [Bool.and_eq_false_iff]
        by_cases h2 : p.ini i = b
        · right; exact decide_eq_false fun e => h1 ⟨h2, e⟩
        · left; exact decide_eq_false h2
      rw [this]
      simp
theorem syS_any (p : Ptn) (b : Bool) (t : Int) : ∀ i, ((syS p i).any fun q => q == (b, t)) = decide (0 < saS p b t i)
  | 0 => rfl
  | i + 1 => by
    show ((syS p i ++ syR p i (p.tk i).length).any _) = decide (0 < saS p b t i + saR p b t i (p.tk i).length)
    rw [List.any_append, syS_any p b t i, syR_any p b t i _ (Nat.le_refl _)]
    by_cases h1 : 0 < saS p b t i <;> by_cases h2 : 0 < saR p b t i (p.tk i).length <;> simp [h1, h2] <;> omega
/-- What was said ahead of a place. -/
def syP (p : Ptn) (m k : Nat) : List Say := syS p m ++ syR p m k
theorem syP_any (p : Ptn) (b : Bool) (t : Int) (m k : Nat) (hk : k ≤ (p.tk m).length) : ((syP p m k).any fun q => q == (b, t)) = decide (0 < saN p b t m k) := by
  unfold syP saN
  rw [List.any_append, syS_any, syR_any p b t m k hk, Nat.min_eq_left hk]
  by_cases h1 : 0 < saS p b t m <;> by_cases h2 : 0 < saR p b t m k <;> simp [h1, h2] <;> omega
theorem kn_any (p : Ptn) (b : Bool) (t : Int) : ((knL p).any fun q => q == (b, t)) = (decide (t = 2) && (if b then p.ki else p.kr)) := by
  unfold knL
  by_cases h : t = 2
  · subst h
    cases p.ki <;> cases p.kr <;> cases b <;> rfl
  · have e : ∀ c : Bool, (((c, (2 : Int)) : Say) == (b, t)) = false := fun c => by
      rw [sayEq, decide_eq_false (show ¬ (2 : Int) = t from fun e => h e.symm)]
      simp
    rw [decide_eq_false h]
    cases p.ki <;> cases p.kr <;> simp [e]
/-- A key is lacking just where the document says that it is not there. -/
theorem lk_hs (p : Ptn) (b : Bool) (t : Int) (m k : Nat) (hk : k ≤ (p.tk m).length) (ht : scB t = false) : lkB (crS (knL p, []) (syP p m k)).1 (b, t) = !hsB p b t m k := by
  unfold lkB hsB
  rw [crS_eq]
  show (!(knL p ++ (syP p m k).filter fun s => !scB s.2).any fun q => q == (b, t)) = _
  rw [List.any_append, kn_any, anyFilter]
  have e : ((syP p m k).any fun x => !scB x.2 && x == (b, t)) = (syP p m k).any fun q => q == (b, t) := anyCongr _ _ _ fun x => by
    rw [sayEq]
    by_cases h : x.2 = t
    · rw [h, ht]; simp
    · simp [h]
  rw [e, syP_any p b t m k hk]
/-- What may be there once at most. -/
theorem rp_km (p : Ptn) (b : Bool) (t : Int) (m k : Nat) (hk : k ≤ (p.tk m).length) (ht : kmB t = true) : (crS (knL p, []) (syP p m k)).2.any (rpB (b, t)) = decide (0 < saN p b t m k) := by
  rw [crS_eq]
  show (([] : List Say) ++ (syP p m k).filter fun s : Say => scB s.2).any (rpB (b, t)) = _
  rw [List.nil_append, anyFilter, ← syP_any p b t m k hk]
  refine anyCongr _ _ _ fun x => ?_
  unfold rpB
  rw [sayEq]
  show (scB x.2 && (decide (t = x.2) && (decide (b = x.1) || !kmB t))) = _
  by_cases h : t = x.2
  · subst h
    have : scB x.2 = true := by unfold scB; rw [ht]; simp
    rw [this, ht]
    by_cases h2 : b = x.1
    · simp [h2]
    · rw [decide_eq_false h2, decide_eq_false (show ¬ x.1 = b from fun e => h2 e.symm)]
      simp
  · rw [decide_eq_false h, decide_eq_false (show ¬ x.2 = t from fun e => h e.symm)]
    simp
theorem rp_no (p : Ptn) (b : Bool) (t : Int) (m k : Nat) (hk : k ≤ (p.tk m).length) (ht : scB t = true) (hm : kmB t = false) : (crS (knL p, []) (syP p m k)).2.any (rpB (b, t)) = !decide (saN p true t m k + saN p false t m k = 0) := by
  rw [crS_eq]
  show (([] : List Say) ++ (syP p m k).filter fun s : Say => scB s.2).any (rpB (b, t)) = _
  have e : (!decide (saN p true t m k + saN p false t m k = 0)) = (decide (0 < saN p true t m k) || decide (0 < saN p false t m k)) := by
    by_cases h1 : 0 < saN p true t m k <;> by_cases h2 : 0 < saN p false t m k <;> simp [h1, h2] <;> omega
  rw [List.nil_append, anyFilter, e, ← syP_any p true t m k hk, ← syP_any p false t m k hk, ← anyOr]
  refine anyCongr _ _ _ fun x => ?_
  unfold rpB
  rw [sayEq, sayEq]
  show (scB x.2 && (decide (t = x.2) && (decide (b = x.1) || !kmB t))) = _
  by_cases h : t = x.2
  · subst h
    rw [ht, hm]
    cases x.1 <;> simp
  · rw [decide_eq_false h, decide_eq_false (show ¬ x.2 = t from fun e => h e.symm)]
    simp
/-- A token may be said just where the document says so. -/
theorem tk_my (p : Ptn) (h : PtS p) (m k : Nat) (hm : m < p.n) (hk : k < (p.tk m).length) : tkS (crS (knL p, []) (syP p m k)) (p.ini m, (p.tk m).getD k 0) = myB p m k := by
  have hx := h.x m hm k hk
  have hk' : k ≤ (p.tk m).length := by omega
  unfold myB
  generalize (p.tk m).getD k 0 = t at hx
  generalize p.ini m = me
  have ht : t = 1 ∨ t = 2 ∨ t = 3 ∨ t = 4 ∨ t = 5 ∨ t = 6 ∨ t = 7 ∨ t = 8 ∨ t = 9 ∨ t = 10 := by omega
  have L1 := fun b => lk_hs p b 1 m k hk' rfl
  have L2 := fun b => lk_hs p b 2 m k hk' rfl
  have L8 := fun b => lk_hs p b 8 m k hk' rfl
  unfold tkS
  rcases ht with rfl | rfl | rfl | rfl | rfl | rfl | rfl | rfl | rfl | rfl
  · exact L1 me
  · exact L2 me
  · show (if (crS (knL p, []) (syP p m k)).2.any (rpB (me, 3)) = true then false else !([(true, 1), (false, 1)] : List Say).any (lkB (crS (knL p, []) (syP p m k)).1)) = (hsB p true 1 m k && hsB p false 1 m k && decide (saN p true 3 m k + saN p false 3 m k = 0))
    rw [rp_no p me 3 m k hk' rfl rfl]
    simp only [List.any_cons, List.any_nil, L1]
    cases decide (saN p true 3 m k + saN p false 3 m k = 0) <;> cases hsB p true 1 m k <;> cases hsB p false 1 m k <;> rfl
  · show (if (crS (knL p, []) (syP p m k)).2.any (rpB (me, 4)) = true then false else !([(true, 1), (false, 2)] : List Say).any (lkB (crS (knL p, []) (syP p m k)).1)) = (hsB p true 1 m k && hsB p false 2 m k && decide (saN p true 4 m k + saN p false 4 m k = 0))
    rw [rp_no p me 4 m k hk' rfl rfl]
    simp only [List.any_cons, List.any_nil, L1, L2]
    cases decide (saN p true 4 m k + saN p false 4 m k = 0) <;> cases hsB p true 1 m k <;> cases hsB p false 2 m k <;> rfl
  · show (if (crS (knL p, []) (syP p m k)).2.any (rpB (me, 5)) = true then false else !([(true, 2), (false, 1)] : List Say).any (lkB (crS (knL p, []) (syP p m k)).1)) = (hsB p true 2 m k && hsB p false 1 m k && decide (saN p true 5 m k + saN p false 5 m k = 0))
    rw [rp_no p me 5 m k hk' rfl rfl]
    simp only [List.any_cons, List.any_nil, L1, L2]
    cases decide (saN p true 5 m k + saN p false 5 m k = 0) <;> cases hsB p true 2 m k <;> cases hsB p false 1 m k <;> rfl
  · show (if (crS (knL p, []) (syP p m k)).2.any (rpB (me, 6)) = true then false else !([(true, 2), (false, 2)] : List Say).any (lkB (crS (knL p, []) (syP p m k)).1)) = (hsB p true 2 m k && hsB p false 2 m k && decide (saN p true 6 m k + saN p false 6 m k = 0))
    rw [rp_no p me 6 m k hk' rfl rfl]
    simp only [List.any_cons, List.any_nil, L1, L2]
    cases decide (saN p true 6 m k + saN p false 6 m k = 0) <;> cases hsB p true 2 m k <;> cases hsB p false 2 m k <;> rfl
  · show (if (crS (knL p, []) (syP p m k)).2.any (rpB (me, 7)) = true then false else !lkB (crS (knL p, []) (syP p m k)).1 (me, 1) || !lkB (crS (knL p, []) (syP p m k)).1 (me, 8)) = ((hsB p me 1 m k || hsB p me 8 m k) && decide (saN p true 7 m k + saN p false 7 m k = 0))
    rw [rp_no p me 7 m k hk' rfl rfl, L1, L8]
    cases decide (saN p true 7 m k + saN p false 7 m k = 0) <;> cases hsB p me 1 m k <;> cases hsB p me 8 m k <;> rfl
  · exact L8 me
  · show (if (crS (knL p, []) (syP p m k)).2.any (rpB (me, 9)) = true then false else !([(!me, 8)] : List Say).any (lkB (crS (knL p, []) (syP p m k)).1)) = (hsB p (!me) 8 m k && decide (saN p me 9 m k = 0))
    rw [rp_km p me 9 m k hk' rfl]
    simp only [List.any_cons, List.any_nil, L8]
    by_cases h0 : saN p me 9 m k = 0
    · rw [h0]; cases hsB p (!me) 8 m k <;> rfl
    · rw [decide_eq_true (by omega : 0 < saN p me 9 m k), decide_eq_false h0]; simp
  · show (if (crS (knL p, []) (syP p m k)).2.any (rpB (me, 10)) = true then false else !([(!me, 2)] : List Say).any (lkB (crS (knL p, []) (syP p m k)).1)) = (hsB p (!me) 2 m k && decide (saN p me 10 m k = 0))
    rw [rp_km p me 10 m k hk' rfl]
    simp only [List.any_cons, List.any_nil, L2]
    by_cases h0 : saN p me 10 m k = 0
    · rw [h0]; cases hsB p (!me) 2 m k <;> rfl
    · rw [decide_eq_true (by omega : 0 < saN p me 10 m k), decide_eq_false h0]; simp
/-! ### Places -/
theorem syS_split (p : Ptn) : ∀ (d m : Nat), ∃ rest, syS p (m + d) = syS p m ++ rest
  | 0, m => ⟨[], by simp⟩
  | d + 1, m => by
    obtain ⟨r, hr⟩ := syS_split p d m
    exact ⟨r ++ syR p (m + d) (p.tk (m + d)).length, by show syS p (m + d) ++ syR p (m + d) (p.tk (m + d)).length = _; rw [hr, List.append_assoc]⟩
theorem sy_place (p : Ptn) (m k : Nat) (hm : m < p.n) (hk : k < (p.tk m).length) : (syL p).take ((syS p m).length + k) = syP p m k ∧ (syL p).getD ((syS p m).length + k) (false, 0) = (p.ini m, (p.tk m).getD k 0) ∧ (syS p m).length + k < (syL p).length := by
  obtain ⟨rest, hr⟩ := syS_split p (p.n - (m + 1)) (m + 1)
  rw [show m + 1 + (p.n - (m + 1)) = p.n by omega] at hr
  have e1 : syL p = syS p m ++ (syR p m (p.tk m).length ++ rest) := by
    show syS p p.n = _
    rw [hr]
    show (syS p m ++ syR p m (p.tk m).length) ++ rest = _
    rw [List.append_assoc]
  have e2 : syR p m (p.tk m).length = syR p m k ++ ((p.tk m).drop k).map fun t => (p.ini m, t) := by
    unfold syR
    rw [List.take_length, ← List.map_append, List.take_append_drop]
  have hl := syR_length p m k (by omega)
  have e3 : ((p.tk m).drop k) = (p.tk m).getD k 0 :: (p.tk m).drop (k + 1) := by
    rw [List.drop_eq_getElem_cons hk]
    simp [hk]
  have e4 : syL p = (syS p m ++ syR p m k) ++ (p.ini m, (p.tk m).getD k 0) :: (((p.tk m).drop (k + 1)).map (fun t => (p.ini m, t)) ++ rest) := by
    rw [e1, e2, e3]
    simp
  have hle : (syS p m ++ syR p m k).length = (syS p m).length + k := by rw [List.length_append, hl]
  refine ⟨?_, ?_, ?_⟩
  · rw [e4, ← hle, List.take_left]
    rfl
  · rw [e4, ← hle]
    simp
  · rw [e4, List.length_append, hle]
    simp
theorem sy_where (p : Ptn) : ∀ n j, j < (syS p n).length → ∃ m k, m < n ∧ k < (p.tk m).length ∧ j = (syS p m).length + k
  | 0, j, h => by simp [syS] at h
  | n + 1, j, h => by
    by_cases h1 : j < (syS p n).length
    · obtain ⟨m, k, h2, h3, h4⟩ := sy_where p n j h1
      exact ⟨m, k, by omega, h3, h4⟩
    · have h2 : (syS p (n + 1)).length = (syS p n).length + (p.tk n).length := by
        show (syS p n ++ syR p n (p.tk n).length).length = _
        rw [List.length_append, syR_length p n _ (Nat.le_refl _)]
      exact ⟨n, j - (syS p n).length, by omega, by omega, by omega⟩
theorem io_my (p : Ptn) (h : PtS p) : ioB p = (List.range p.n).all fun m => (List.range (p.tk m).length).all fun k => myB p m k := by
  rw [Bool.eq_iff_iff]
  unfold ioB
  simp only [List.all_eq_true, List.mem_range]
  constructor
  · intro h1 m hm k hk
    obtain ⟨e1, e2, e3⟩ := sy_place p m k hm hk
    have := h1 _ e3
    rw [e1, e2, tk_my p h m k hm hk] at this
    exact this
  · intro h1 j hj
    obtain ⟨m, k, hm, hk, rfl⟩ := sy_where p p.n j hj
    obtain ⟨e1, e2, e3⟩ := sy_place p m k hm hk
    rw [e1, e2, tk_my p h m k hm hk]
    exact h1 m hm k hk
theorem ck_all (p : Ptn) (h : PtS p) : (((List.range p.n).all fun m => decide (p.ini m = decide (m % 2 = 0))) && ioB p) = ckQ p := by
  rw [io_my p h, Bool.eq_iff_iff]
  unfold ckQ ckM
  simp only [Bool.and_eq_true, List.all_eq_true]
  exact ⟨fun h m hm => ⟨h.1 m hm, h.2 m hm⟩, fun h => ⟨fun m hm => (h m hm).1, fun m hm => (h m hm).2⟩⟩
/-! ### Secrets -/
theorem sc_keys (t : Int) (o : Bool) (h1 : 1 ≤ t) (h2 : t ≤ 10) : (scK t o = []) = (scB t = false) := by
  have ht : t = 1 ∨ t = 2 ∨ t = 3 ∨ t = 4 ∨ t = 5 ∨ t = 6 ∨ t = 7 ∨ t = 8 ∨ t = 9 ∨ t = 10 := by omega
  rcases ht with rfl | rfl | rfl | rfl | rfl | rfl | rfl | rfl | rfl | rfl <;> simp [scK, scB, cvB, kmB, pkB]
theorem sc_row (p : Ptn) (i : Nat) (hx : ∀ j, j < (p.tk i).length → 1 ≤ (p.tk i).getD j 0 ∧ (p.tk i).getD j 0 ≤ 10) : ∀ j, j ≤ (p.tk i).length → scR p i j = ((syR p i j).filter fun s => scB s.2).map fun s => (s.2, scK s.2 (!s.1))
  | 0, _ => rfl
  | j + 1, h => by
    have h1 := hx j (by omega)
    rw [syR_next p i j (by omega), List.filter_append, List.map_append, ← sc_row p i hx j (by omega)]
    show scR p i j ++ _ = _
    congr 1
    have e := sc_keys ((p.tk i).getD j 0) (!p.ini i) h1.1 h1.2
    cases hc : scB ((p.tk i).getD j 0) with
    | false =>
      rw [if_pos (by rw [e]; exact hc)]
      simp only [List.filter_cons, List.filter_nil, hc]
      rfl
    | true =>
      rw [if_neg (by rw [e, hc]; simp)]
      simp only [List.filter_cons, List.filter_nil, hc]
      rfl
theorem sc_all (p : Ptn) (h : PtS p) : ∀ i, i ≤ p.n → scS p i = ((syS p i).filter fun s => scB s.2).map fun s => (s.2, scK s.2 (!s.1))
  | 0, _ => rfl
  | i + 1, hi => by
    show scS p i ++ scR p i (p.tk i).length = _
    rw [sc_all p h i (by omega), sc_row p i (fun j hj => h.x i (by omega) j hj) _ (Nat.le_refl _), ← List.map_append, ← List.filter_append]
    rfl
/-- The secrets that are said. -/
def seL (p : Ptn) : List Say := if wrB p then (syL p).filter fun s => scB s.2 else []
theorem sec_eq (p : Ptn) : secL p = (seL p).map fun s => (s.2, scK s.2 (!s.1)) := by
  unfold secL seL
  cases h : wrB p with
  | false => rfl
  | true => exact sc_all p (PtS.of h) p.n (Nat.le_refl _)
theorem filterAny {α : Type} (f : α → Bool) (l : List α) : (!(l.filter f).isEmpty) = l.any f := by
  induction l with
  | nil => rfl
  | cons x l ih => cases h : f x <;> simp [h] <;> simpa using ih
theorem cv_lt (t : Int) (h1 : 1 ≤ t) (h2 : t ≤ 10) : (scB t && decide (t < 7)) = cvB t := by
  have ht : t = 1 ∨ t = 2 ∨ t = 3 ∨ t = 4 ∨ t = 5 ∨ t = 6 ∨ t = 7 ∨ t = 8 ∨ t = 9 ∨ t = 10 := by omega
  rcases ht with rfl | rfl | rfl | rfl | rfl | rfl | rfl | rfl | rfl | rfl <;> rfl
theorem km_lt (t : Int) (h1 : 1 ≤ t) (h2 : t ≤ 10) : (scB t && decide (8 < t)) = kmB t := by
  have ht : t = 1 ∨ t = 2 ∨ t = 3 ∨ t = 4 ∨ t = 5 ∨ t = 6 ∨ t = 7 ∨ t = 8 ∨ t = 9 ∨ t = 10 := by omega
  rcases ht with rfl | rfl | rfl | rfl | rfl | rfl | rfl | rfl | rfl | rfl <;> rfl
theorem sy_tok (p : Ptn) (h : PtS p) : ∀ s ∈ syL p, 1 ≤ s.2 ∧ s.2 ≤ 10 := by
  intro s hs
  obtain ⟨j, hj, rfl⟩ := List.mem_iff_getElem.1 hs
  obtain ⟨m, k, hm, hk, rfl⟩ := sy_where p p.n j hj
  obtain ⟨e1, e2, e3⟩ := sy_place p m k hm hk
  have : (syL p)[(syS p m).length + k] = (p.ini m, (p.tk m).getD k 0) := by rw [← e2]; simp [e3]
  rw [this]
  exact h.x m hm k hk
theorem anyMem {α : Type} (f g : α → Bool) : ∀ (l : List α), (∀ x ∈ l, f x = g x) → l.any f = l.any g
  | [], _ => rfl
  | x :: l, h => by
    simp only [List.any_cons]
    rw [h x (by simp), anyMem f g l fun y hy => h y (by simp [hy])]
theorem allMem {α : Type} (f g : α → Bool) : ∀ (l : List α), (∀ x ∈ l, f x = g x) → l.all f = l.all g
  | [], _ => rfl
  | x :: l, h => by
    simp only [List.all_cons]
    rw [h x (by simp), allMem f g l fun y hy => h y (by simp [hy])]
/-- Are both kinds said? -/
theorem hy_eq (p : Ptn) : hyB p = ((if wrB p then (syL p).any fun s => cvB s.2 else false) && (if wrB p then (syL p).any fun s => kmB s.2 else false)) := by
  unfold hyB
  rw [sec_eq]
  unfold seL
  cases h : wrB p with
  | false => rfl
  | true =>
    have hS := PtS.of h
    simp only [List.any_map, if_true]
    rw [anyFilter, anyFilter]
    congr 1
    · exact anyMem _ _ _ fun s hs => cv_lt s.2 (sy_tok p hS s hs).1 (sy_tok p hS s hs).2
    · exact anyMem _ _ _ fun s hs => km_lt s.2 (sy_tok p hS s hs).1 (sy_tok p hS s hs).2
/-- Is a secret known? -/
def drS (curve kem : Bool) (known : List Say) (s : Say) : Bool := (curve && cvB s.2) || (kem && kmB s.2) || (scK s.2 (!s.1)).any fun k => known.any fun q => q == k
theorem dr_eq (p : Ptn) (curve kem : Bool) (known : List Say) : drB p curve kem known = (wrB p && (seL p).all (drS curve kem known)) := by
  unfold drB
  rw [sec_eq, List.all_map]
  cases h : wrB p with
  | false => rfl
  | true =>
    have hS := PtS.of h
    congr 1
    refine allMem _ _ _ fun s hs => ?_
    unfold seL at hs
    rw [if_pos h] at hs
    obtain ⟨h1, h2⟩ := List.mem_filter.1 hs
    have ht := sy_tok p hS s h1
    have e1 := cv_lt s.2 ht.1 ht.2
    have e2 := km_lt s.2 ht.1 ht.2
    rw [h2] at e1 e2
    show drE curve kem known (s.2, scK s.2 (!s.1)) = _
    unfold drE drS
    rw [← e1, ← e2]
    rfl
end Go.Proofs.YtpoibhhijidobabGreatDoor

/- A pattern's secrets: contracts of package pattern, ninth part. -/
namespace Go.Proofs.YtpoibhhijidobabGreatDoor
open Go.ChangeShapes Go.WideShapes Go.ChangeAt Go.RowKit
set_option linter.unusedSimpArgs false
set_option linter.unusedVariables false

/-- A variable of one's own is made and written. -/
theorem OwnG.var {w0 w w2 w3 : World} {L : List Rw} (h : OwnG w0 L w) (b : Below w.heap.size w w2) (hw : Wrote w.heap.size w2 w3) : OwnG w0 L w3 :=
  (h.kept b).wrote hw h.below.size fun q hq b hb => by have := h.lt q hq b hb; omega
theorem filter_next (f : Say → Bool) (l : List Say) (i : Nat) (h : i < l.length) : (l.take (i + 1)).filter f = (l.take i).filter f ++ (if f (l.getD i (false, 0)) then [l.getD i (false, 0)] else []) := by
  have e : l.take (i + 1) = l.take i ++ [l.getD i (false, 0)] := by
    rw [List.take_add_one, List.getElem?_eq_getElem h]
    simp [h]
  rw [e, List.filter_append]
  cases hf : f (l.getD i (false, 0)) <;> simp only [List.filter_cons, List.filter_nil, hf] <;> rfl
/-- What is said of some kind. -/
def slF (p : Ptn) (f : Say → Bool) : List Say := if wrB p then (syL p).filter f else []

set_option maxRecDepth 100000 in
set_option maxHeartbeats 8000000 in
theorem secretsOf_any (K : FuncId) (f : Say → Bool) (p : Ptn) (vm : Value) (A : Array Value) (hA : A = (paC p vm).toArray) (hnm : p.name.length ≤ maxLen) (w : World) (h : MsR w vm p) (hE : ∀ (args : Array Value) (w : World), (callFunc K args).run Tryz.prog w = .ok (.enter K args) w)
    (hK : ∀ (b : Bool) (t : Int) (W : World), Calls Tryz.prog K #[.agg #[.bool b, .int .i64 t]] W fun e w' => e = .returned (.bool (f (b, t))) ∧ Below W.heap.size W w') :
    Calls Tryz.prog 27 #[.agg A, .func (.func K) #[] #[]] w fun e w' => ∃ v, e = .returned v ∧ OwnG w [⟨69, 2, v, (slF p f).length, kyC (slF p f)⟩] w' := by
  obtain ⟨ti, hti, hz0, hz1, hz2⟩ := info_parts infoSay
  have HM : Hid (MsR w vm p) := h
  have HNm : Hid (p.name.length ≤ maxLen) := hnm
  have HF : Hid (∀ (b : Bool) (t : Int) (W : World), Calls Tryz.prog K #[.agg #[.bool b, .int .i64 t]] W fun e w' => e = .returned (.bool (f (b, t))) ∧ Below W.heap.size W w') := hK
  clear h hnm hK
  go_enter Tryz.func27, Tryz.ntmps27
  go_wp2_with (refine wpList_box_blk rfl 25 _ rfl (paC p vm) (by rw [← hA]; rfl) ?_)
  intro w1 r1 b1 s1
  have HM1 : Hid (MsR w1 vm p) := HM.out.kept b1
  clear s1 hA HM
  go_wp2_with (refine wpList_load_part rfl 25 _ rfl rfl [] (paC p vm) [] r1 (whole15 _) rfl Tryz.underlying25 rfl (paInfo p vm) ?_)
  refine (writable_any p vm _ rfl HNm.out _ HM1.out).mono ?_
  rintro e w2 ⟨rfl, b2⟩
  replace r1 := r1.kept b2
  have HM2 : Hid (MsR w2 vm p) := HM1.out.kept b2
  replace b1 := stepB b1 b2
  obtain ⟨y, hy⟩ : ∃ y : Bool, y = wrB p := ⟨_, rfl⟩
  rw [← hy]
  have HY : Hid (y = wrB p) := hy
  clear hy b2 HM1
  cases y with
  | false =>
    have HR : Hid (slF p f = []) := by show _ = _; unfold slF; rw [if_neg (by rw [← HY.out]; simp)]
    have HO : Hid (OwnG w [⟨69, 2, .slice none 0 0, 0, []⟩] w2) := (OwnG.since b1).nil 69 2
    clear b1 r1
    go_wp2
    go_ret
    exact ⟨_, rfl, by rw [HR.out]; exact HO.out⟩
  | true =>
    have HS : Hid (PtS p) := PtS.of HY.out.symm
    have HR : Hid (slF p f = (syL p).filter f) := by show _ = _; unfold slF; rw [if_pos HY.out.symm]
    have HB1 : Hid (Below w.heap.size w w2) := b1
    clear b1
    go_wp2_with (refine wpList_load_part rfl 25 _ rfl rfl [] (paC p vm) [] r1 (whole15 _) rfl Tryz.underlying25 rfl (paInfo p vm) ?_)
    refine (sayings_any p vm _ rfl HS.out _ HM2.out).mono ?_
    rintro e w3 ⟨v, rfl, hO⟩
    obtain ⟨a, cap, rfl, hl1, hl2⟩ := ky_len15 (hO.ky rfl)
    obtain ⟨N, hN⟩ : ∃ N : Nat, N = (syL p).length := ⟨_, rfl⟩
    have HN : Hid (N = (syL p).length) := hN
    have hNb : N ≤ 96 := by rw [hN]; exact syL_len HS.out
    rw [← hN] at hl1 hO ⊢
    have hO0 : OwnG w2 [⟨69, 2, .slice none 0 0, (((syL p).take 0).filter f).length, kyC (((syL p).take 0).filter f)⟩, ⟨69, 2, .slice a N cap, N, kyC (syL p)⟩] w3 := hO.nil 69 2
    unfold maxLen at hl2
    clear hO HM2 r1 hN
    go_wp2
    go_loopw [5, 14] (fun ov iv wx => ∃ i : Nat, i ≤ N ∧ iv = .int .i64 (i : Int) ∧ OwnG w2 [⟨69, 2, ov, (((syL p).take i).filter f).length, kyC (((syL p).take i).filter f)⟩, ⟨69, 2, .slice a N cap, N, kyC (syL p)⟩] wx) (fun _ iv _ => N - (intOf iv).toNat)
    case atStart => exact ⟨0, by omega, rfl, hO0⟩
    case round =>
      obtain ⟨i, hi, rfl, hO⟩ := hrel
      clear hO0
      by_cases hlt : i < N
      · have hd : decide ((i : Int) < (N : Int)) = true := decide_eq_true (by omega)
        have hiI : (i : Int) < (N : Int) := by omega
        have HIn : Hid (i < (syL p).length) := by show _ < _; rw [← HN.out]; exact hlt
        obtain ⟨b, off, rfl, g1, g2⟩ := (hO.tail.ky HN.out).at HIn.out
        obtain ⟨x, hx⟩ : ∃ x : Say, x = (syL p).getD i (false, 0) := ⟨_, rfl⟩
        rw [← hx] at g1 g2
        have HX : Hid (x = (syL p).getD i (false, 0)) := hx
        obtain ⟨xb, xt⟩ := x
        have hrg := range_two g1 g2
        obtain ⟨LL, hLL⟩ : ∃ L : List Say, L = ((syL p).take i).filter f := ⟨_, rfl⟩
        rw [← hLL] at hO
        have HLL : Hid (LL = ((syL p).take i).filter f) := hLL
        have hLn : LL.length ≤ 96 := by
          rw [hLL]
          refine Nat.le_trans (List.length_filter_le _ _) ?_
          rw [List.length_take]
          omega
        have HO : Hid (OwnG w2 [⟨69, 2, u5, LL.length, kyC LL⟩, ⟨69, 2, .slice (some ⟨b, off, none⟩) N cap, N, kyC (syL p)⟩] wr) := hO
        clear hx g1 g2 hLL hO
        go_wp2_with (first
          | refine wpList_load_mid rfl 69 _ rfl b (off + i * 2) rfl [.bool xb, .int .i64 xt] _ hrg Tryz.underlying69 rfl infoSay2 ?_
          | refine wpList_alloc_blk rfl 69 rfl [.bool false, .int .i64 0] (allocSay _) ?_)
        intro w4 r4 b4 s4
        go_wp2_with (refine wpList_store_part rfl 69 _ _ rfl rfl [.bool xb, .int .i64 xt] rfl [] [.bool false, .int .i64 0] [] [.bool xb, .int .i64 xt] r4 rfl rfl rfl rfl infoSay2 (oneSayA xb xt) ?_)
        intro w5 r5 hw5
        have hO5 := OwnG.var HO.out b4 hw5
        clear r4 b4 s4 hw5 HO hrg
        go_wp2_with (refine wpList_load_part rfl 69 _ rfl rfl [] [.bool xb, .int .i64 xt] [] r5 rfl rfl Tryz.underlying69 rfl infoSay2 ?_)
        refine (HF.out xb xt _).mono ?_
        rintro e w6 ⟨rfl, b6⟩
        replace r5 := r5.kept b6
        have hO6 := hO5.kept b6
        obtain ⟨y, hy⟩ : ∃ y : Bool, y = f (xb, xt) := ⟨_, rfl⟩
        rw [← hy]
        have HY2 : Hid (y = f (xb, xt)) := hy
        clear hy b6 hO5
        cases y with
        | false =>
          have hO7 : OwnG w2 [⟨69, 2, u5, (((syL p).take (i + 1)).filter f).length, kyC (((syL p).take (i + 1)).filter f)⟩, ⟨69, 2, .slice (some ⟨b, off, none⟩) N cap, N, kyC (syL p)⟩] w6 := by
            have e : ((syL p).take (i + 1)).filter f = LL := by
              rw [filter_next f _ _ HIn.out, ← HX.out, ← HY2.out, ← HLL.out]
              simp
            rw [e]
            exact hO6
          clear hO6
          go_wp2
          go_roundw
          case rel => exact ⟨i + 1, by omega, by go_num, hO7⟩
          case measure => simp [intOf] <;> omega
        | true =>
          have HL2 : Hid (LL ++ [(xb, xt)] = ((syL p).take (i + 1)).filter f) := by
            show _ = _
            rw [filter_next f _ _ HIn.out, ← HX.out, ← HY2.out, ← HLL.out]
            rfl
          go_wp2_with (first
            | refine wpList_load_part rfl 69 _ rfl rfl [] [.bool xb, .int .i64 xt] [] r5 rfl rfl Tryz.underlying69 rfl infoSay2 ?_
            | (at_builtin; go_must (refine wpList_append_E rfl _ _ 65 rfl 69 ti _ 2 16 Tryz.underlying65 hti hz0 hz1 hz2 rfl (by decide) _ LL.length (kyC LL) rfl (hO6.kept (growB _)) ⟨w6.heap.size, 0, none⟩ 1 1 [.bool xb, .int .i64 xt] rfl rfl (news2 _ _ rfl) (oneSay xb xt) (by unfold maxLen; omega) (by omega) ?_)))
          intro v7 w7 hO7 hC7
          rw [kyC_next, HL2.out] at hO7
          have hO8 : OwnG w2 [⟨69, 2, v7, (((syL p).take (i + 1)).filter f).length, kyC (((syL p).take (i + 1)).filter f)⟩, ⟨69, 2, .slice (some ⟨b, off, none⟩) N cap, N, kyC (syL p)⟩] w7 := by
            have e : LL.length + 1 = (((syL p).take (i + 1)).filter f).length := by rw [← HL2.out]; simp
            rw [e] at hO7
            exact hO7
          clear hO6 hO7 hC7 r5
          go_wp2
          go_roundw
          case rel => exact ⟨i + 1, by omega, by go_num, hO8⟩
          case measure => simp [intOf] <;> omega
      · have hd : decide ((i : Int) < (N : Int)) = false := decide_eq_false (by omega)
        have hiI : (N : Int) ≤ (i : Int) := by omega
        have HO9 : Hid (OwnG w [⟨69, 2, u5, (slF p f).length, kyC (slF p f)⟩] wr) := by
          have e : slF p f = ((syL p).take i).filter f := by
            rw [HR.out, List.take_of_length_le (by rw [← HN.out]; omega)]
          rw [e]
          exact (hO.swap.tail).from HB1.out
        clear hO
        go_wp2
        go_ret
        exact ⟨_, rfl, HO9.out⟩
end Go.Proofs.YtpoibhhijidobabGreatDoor

/- Which secrets a pattern has, and of which keys: contracts of package pattern, tenth part. -/
namespace Go.Proofs.YtpoibhhijidobabGreatDoor
open Go.ChangeShapes Go.WideShapes Go.ChangeAt Go.RowKit
set_option linter.unusedSimpArgs false
set_option linter.unusedVariables false

theorem sl_curve (p : Ptn) : decide (((0 : Nat) : Int) < (((slF p fun s => cvB s.2).length : Nat) : Int)) = (if wrB p then (syL p).any fun s => cvB s.2 else false) := by
  unfold slF
  cases wrB p with
  | false => rfl
  | true =>
    show decide (((0 : Nat) : Int) < ((((syL p).filter fun s => cvB s.2).length : Nat) : Int)) = (syL p).any fun s => cvB s.2
    rw [← filterAny]
    cases (syL p).filter fun s => cvB s.2 with
    | nil => rfl
    | cons x l => simp <;> omega
theorem sl_kem (p : Ptn) : decide (((0 : Nat) : Int) < (((slF p fun s => kmB s.2).length : Nat) : Int)) = (if wrB p then (syL p).any fun s => kmB s.2 else false) := by
  unfold slF
  cases wrB p with
  | false => rfl
  | true =>
    show decide (((0 : Nat) : Int) < ((((syL p).filter fun s => kmB s.2).length : Nat) : Int)) = (syL p).any fun s => kmB s.2
    rw [← filterAny]
    cases (syL p).filter fun s => kmB s.2 with
    | nil => rfl
    | cons x l => simp <;> omega

set_option maxRecDepth 100000 in
set_option maxHeartbeats 4000000 in
theorem hybrid_any (p : Ptn) (vm : Value) (A : Array Value) (hA : A = (paC p vm).toArray) (hnm : p.name.length ≤ maxLen) (w : World) (h : MsR w vm p) :
    Calls Tryz.prog 13 #[.agg A] w fun e w' => e = .returned (.bool (hyB p)) ∧ Below w.heap.size w w' := by
  obtain ⟨R, hR⟩ : ∃ r : Bool, r = hyB p := ⟨_, rfl⟩
  have HR : Hid (R = ((if wrB p then (syL p).any fun s => cvB s.2 else false) && (if wrB p then (syL p).any fun s => kmB s.2 else false))) := by show _ = _; rw [hR, hy_eq]
  rw [← hR]
  have HM : Hid (MsR w vm p) := h
  have HNm : Hid (p.name.length ≤ maxLen) := hnm
  clear h hR hnm
  go_enter Tryz.func13, Tryz.ntmps13
  go_wp2_with (refine wpList_box_blk rfl 25 _ rfl (paC p vm) (by rw [← hA]; rfl) ?_)
  intro w1 r1 b1 s1
  have HM1 : Hid (MsR w1 vm p) := HM.out.kept b1
  clear s1 hA HM
  go_wp2_with (refine wpList_load_part rfl 25 _ rfl rfl [] (paC p vm) [] r1 (whole15 _) rfl Tryz.underlying25 rfl (paInfo p vm) ?_)
  refine (secretsOf_any 28 (fun s => cvB s.2) p vm _ rfl HNm.out _ HM1.out (fun args w => enters15 Tryz.func28 (by kernel_rfl) rfl args w) (fun b t W => ofCurve_any b t _ rfl W)).mono ?_
  rintro e w2 ⟨v, rfl, hO⟩
  obtain ⟨a, cap, rfl, hl1, hl2⟩ := ky_len15 (hO.ky rfl)
  replace r1 := r1.kept hO.below
  have HM2 : Hid (MsR w2 vm p) := HM1.out.kept hO.below
  replace b1 := stepB b1 hO.below
  rw [← sl_curve, ← sl_kem] at HR
  unfold maxLen at hl2
  generalize (slF p fun s => cvB s.2).length = N at HR hl1 ⊢
  clear hO HM1
  by_cases hN : 0 < N
  · have d1 : decide ((0 : Int) < (N : Int)) = true := decide_eq_true (by omega)
    have HR2 : Hid (R = decide (((0 : Nat) : Int) < (((slF p fun s => kmB s.2).length : Nat) : Int))) := by show _ = _; rw [HR.out, decide_eq_true (by omega : ((0 : Nat) : Int) < (N : Int))]; rfl
    have d2 : (0 : Int) < (N : Int) := by omega
    go_wp2_with (refine wpList_loadG 25 _ rfl rfl (paC p vm) r1 Tryz.underlying25 rfl (paInfo p vm) (by go_simp; done) ?_)
    refine (secretsOf_any 29 (fun s => kmB s.2) p vm _ rfl HNm.out _ HM2.out (fun args w => enters15 Tryz.func29 (by kernel_rfl) rfl args w) (fun b t W => ofKem_any b t _ rfl W)).mono ?_
    rintro e w3 ⟨v, rfl, hO⟩
    obtain ⟨a2, cap2, rfl, hl3, hl4⟩ := ky_len15 (hO.ky rfl)
    replace b1 := stepB b1 hO.below
    generalize (slF p fun s => kmB s.2).length = M at HR2 hl3 ⊢
    unfold maxLen at hl4
    clear hO r1
    go_wp2
    go_ret
    exact ⟨by rw [HR2.out]; simp, b1⟩
  · have d1 : decide ((0 : Int) < (N : Int)) = false := decide_eq_false (by omega)
    have d2 : (N : Int) ≤ 0 := by omega
    have HR2 : Hid (R = false) := by show _ = _; rw [HR.out, decide_eq_false (by omega : ¬ ((0 : Nat) : Int) < (N : Int))]; rfl
    go_wp2
    go_ret
    exact ⟨by rw [HR2.out]; rfl, b1⟩

theorem infoKl : (Tryz.prog.info? 39).map (fun i => (i.zero, i.size, i.bytes)) = some (some (.slice none 0 0), 1, 24) := by kernel_rfl
theorem build_kl (a : Option Addr) (n c : Nat) (w : World) : (Instr.buildSlice 52 1 #[(0, .slice a n c)]).run Tryz.prog w = .ok (.slice (some ⟨w.heap.size, 0, none⟩) 1 1) (w.alloc (.cells #[.slice a n c] 39)) := by kernel_rfl
/-- Rows of keys that were made, one for each secret. -/
structure GdR (rest : List Rw) (vs : List Value) (l : List Say) : Prop where
  len : vs.length = l.length
  keys : ∀ k (h : k < vs.length), (⟨76, 2, vs[k], (scK (l.getD k (false, 0)).2 (!(l.getD k (false, 0)).1)).length, kyC (scK (l.getD k (false, 0)).2 (!(l.getD k (false, 0)).1))⟩ : Rw) ∈ rest
theorem GdR.next {rest : List Rw} {vs : List Value} {l : List Say} (h : GdR rest vs l) (s : Say) (v : Value) : GdR (⟨76, 2, v, (scK s.2 (!s.1)).length, kyC (scK s.2 (!s.1))⟩ :: rest) (vs ++ [v]) (l ++ [s]) := by
  refine ⟨by simp [h.len], fun k hk => ?_⟩
  by_cases hk2 : k < vs.length
  · have e1 : (vs ++ [v])[k] = vs[k] := List.getElem_append_left hk2
    have e2 : (l ++ [s]).getD k (false, 0) = l.getD k (false, 0) := by
      have : k < l.length := by rw [← h.len]; exact hk2
      simp [List.getD, List.getElem?_append_left this]
    rw [e1, e2]
    exact List.mem_cons_of_mem _ (h.keys k hk2)
  · have hke : k = vs.length := by simp at hk; omega
    subst hke
    have e1 : (vs ++ [v])[vs.length] = v := by simp
    have e2 : (l ++ [s]).getD vs.length (false, 0) = s := by rw [h.len]; simp [List.getD]
    rw [e1, e2]
    exact List.mem_cons_self ..
theorem perm3r (r x y : Rw) (l : List Rw) : (x :: y :: r :: l).Perm (r :: x :: y :: l) := (List.perm_append_comm (l₁ := [x, y]) (l₂ := [r])).append_right l
theorem take_say (l : List Say) (i : Nat) (h : i < l.length) : l.take (i + 1) = l.take i ++ [l.getD i (false, 0)] := by
  rw [List.take_add_one, List.getElem?_eq_getElem h]
  simp [h]
theorem slF_len {p : Ptn} (f : Say → Bool) : (slF p f).length ≤ 96 := by
  unfold slF
  cases h : wrB p with
  | false => simp
  | true => exact Nat.le_trans (List.length_filter_le _ _) (syL_len (PtS.of h))

set_option maxRecDepth 100000 in
set_option maxHeartbeats 8000000 in
theorem guardsP_any (p : Ptn) (vm : Value) (A : Array Value) (hA : A = (paC p vm).toArray) (hnm : p.name.length ≤ maxLen) (w : World) (h : MsR w vm p) :
    Calls Tryz.prog 18 #[.agg A] w fun e w' => ∃ v vs, e = .returned v ∧ RdC w' v vs ∧ vs.length = (seL p).length ∧ (∀ k (hk : k < vs.length), KyR w' vs[k] (scK ((seL p).getD k (false, 0)).2 (!((seL p).getD k (false, 0)).1))) ∧ Below w.heap.size w w' := by
  obtain ⟨ti, hti, hz0, hz1, hz2⟩ := info_parts infoKl
  have HM : Hid (MsR w vm p) := h
  have HNm : Hid (p.name.length ≤ maxLen) := hnm
  clear h hnm
  go_enter Tryz.func18, Tryz.ntmps18
  go_wp2_with (refine wpList_box_blk rfl 25 _ rfl (paC p vm) (by rw [← hA]; rfl) ?_)
  intro w1 r1 b1 s1
  have HM1 : Hid (MsR w1 vm p) := HM.out.kept b1
  have HB1 : Hid (Below w.heap.size w w1) := b1
  clear s1 hA HM b1
  go_wp2_with (refine wpList_load_part rfl 25 _ rfl rfl [] (paC p vm) [] r1 (whole15 _) rfl Tryz.underlying25 rfl (paInfo p vm) ?_)
  refine (secretsOf_any 31 (fun s => scB s.2) p vm _ rfl HNm.out _ HM1.out (fun args w => enters15 Tryz.func31 (by kernel_rfl) rfl args w) (fun b t W => isSecret_any b t _ rfl W)).mono ?_
  rintro e w3 ⟨v, rfl, hO⟩
  obtain ⟨SL, hSL⟩ : ∃ l : List Say, l = slF p fun s => scB s.2 := ⟨_, rfl⟩
  rw [← hSL] at hO
  have HSL : Hid (seL p = SL) := by show _ = _; rw [hSL]; rfl
  have hLb : SL.length ≤ 96 := by rw [hSL]; exact slF_len _
  obtain ⟨a, cap, rfl, hl1, hl2⟩ := ky_len15 (hO.ky rfl)
  obtain ⟨N, hN⟩ : ∃ N : Nat, N = SL.length := ⟨_, rfl⟩
  have HN : Hid (N = SL.length) := hN
  have hNb : N ≤ 96 := by rw [hN]; exact hLb
  rw [← hN] at hl1 hO ⊢
  have hO0 : OwnG w1 (⟨39, 1, .slice none 0 0, 0, []⟩ :: ⟨69, 2, .slice a N cap, N, kyC SL⟩ :: []) w3 := hO.nil 39 1
  unfold maxLen at hl2
  clear hO HM1 r1 hN hSL hLb
  go_wp2
  go_loopw [3, 9] (fun ov iv wx => ∃ (i : Nat) (vs : List Value) (rest : List Rw), i ≤ N ∧ iv = .int .i64 (i : Int) ∧ Hid (GdR rest vs (SL.take i)) ∧ OwnG w1 (⟨39, 1, ov, i, vs⟩ :: ⟨69, 2, .slice a N cap, N, kyC SL⟩ :: rest) wx) (fun _ iv _ => N - (intOf iv).toNat)
  case atStart => exact ⟨0, [], [], by omega, rfl, (by show GdR _ _ _; exact ⟨rfl, fun k hk => by cases hk⟩), hO0⟩
  case round =>
    obtain ⟨i, vs, rest, hi, rfl, HG, hO⟩ := hrel
    clear hO0
    by_cases hlt : i < N
    · have hd : decide ((i : Int) < (N : Int)) = true := decide_eq_true (by omega)
      have hiI : (i : Int) < (N : Int) := by omega
      have HIn : Hid (i < SL.length) := by show _ < _; rw [← HN.out]; exact hlt
      obtain ⟨b, off, rfl, g1, g2⟩ := (hO.tail.ky HN.out).at HIn.out
      obtain ⟨x, hx⟩ : ∃ x : Say, x = SL.getD i (false, 0) := ⟨_, rfl⟩
      rw [← hx] at g1 g2
      have HX : Hid (x = SL.getD i (false, 0)) := hx
      obtain ⟨xb, xt⟩ := x
      have hrg := range_two g1 g2
      have HO : Hid (OwnG w1 (⟨39, 1, u3, i, vs⟩ :: ⟨69, 2, .slice (some ⟨b, off, none⟩) N cap, N, kyC SL⟩ :: rest) wr) := hO
      clear hx g1 g2 hO
      go_wp2_with (first
        | refine wpList_load_mid rfl 69 _ rfl b (off + i * 2) rfl [.bool xb, .int .i64 xt] _ hrg Tryz.underlying69 rfl infoSay2 ?_
        | refine wpList_alloc_blk rfl 69 rfl [.bool false, .int .i64 0] (allocSay _) ?_)
      intro w4 r4 b4 s4
      go_wp2_with (refine wpList_store_part rfl 69 _ _ rfl rfl [.bool xb, .int .i64 xt] rfl [] [.bool false, .int .i64 0] [] [.bool xb, .int .i64 xt] r4 rfl rfl rfl rfl infoSay2 (oneSayA xb xt) ?_)
      intro w5 r5 hw5
      have hO5 := OwnG.var HO.out b4 hw5
      clear r4 b4 s4 hw5 HO hrg
      go_wp2_with (refine wpList_load_part rfl 69 _ rfl rfl [] [.bool xb, .int .i64 xt] [] r5 rfl rfl Tryz.underlying69 rfl infoSay2 ?_)
      refine (guards_any xb xt _ rfl _).mono ?_
      rintro e w6 ⟨vg, rfl, hOg⟩
      have hO6 := (hO5.fresh (p := ⟨76, 2, vg, (scK xt (!xb)).length, kyC (scK xt (!xb))⟩) (hOg.rows _ (List.mem_cons_self ..)) hOg.below)
      obtain ⟨ag, cg, rfl, -, -⟩ := ky_len15 (hOg.ky rfl)
      obtain ⟨KK, hKK⟩ : ∃ l : List Say, l = scK xt (!xb) := ⟨_, rfl⟩
      rw [← hKK] at hO6 ⊢
      have HG2 : Hid (GdR (⟨76, 2, .slice ag KK.length cg, KK.length, kyC KK⟩ :: rest) (vs ++ [.slice ag KK.length cg]) (SL.take (i + 1))) := by
        show GdR _ _ _
        rw [take_say SL i HIn.out, ← HX.out, hKK]
        exact HG.out.next (xb, xt) _
      have hO7 : OwnG w1 (⟨39, 1, u3, i, vs⟩ :: ⟨69, 2, .slice (some ⟨b, off, none⟩) N cap, N, kyC SL⟩ :: ⟨76, 2, .slice ag KK.length cg, KK.length, kyC KK⟩ :: rest) w6 := hO6.perm (perm3r _ _ _ _)
      clear hOg hO5 hO6 r5 hKK
      go_wp2_with (first
        | (refine wpList_buildS rfl 52 _ rfl (.slice ag KK.length cg) rfl 39 w6.heap.size rfl (build_kl _ _ _ _) ?_; simp only [Act.put, List.setIfInBounds_toArray, List.set_cons_zero, List.set_cons_succ])
        | (at_builtin; go_must (refine wpList_append_E rfl _ _ 52 rfl 39 ti _ 1 24 Tryz.underlying52 hti hz0 hz1 hz2 rfl (by decide) _ i vs rfl (hO7.kept (growB _)) ⟨w6.heap.size, 0, none⟩ 1 1 [.slice ag KK.length cg] rfl rfl (news1 _ rfl) (by intro u hu; simp at hu; subst hu; rfl) (by unfold maxLen; omega) (by omega) ?_)))
      intro v8 w8 hO8 hC8
      clear hO7 hC8
      go_wp2
      go_roundw
      case rel => exact ⟨i + 1, _, _, by omega, by go_num, HG2, hO8⟩
      case measure => simp [intOf] <;> omega
    · have hd : decide ((i : Int) < (N : Int)) = false := decide_eq_false (by omega)
      have hiI : (N : Int) ≤ (i : Int) := by omega
      have HE : Hid (SL.take i = seL p) := by show _ = _; rw [List.take_of_length_le (by rw [← HN.out]; omega), HSL.out]
      have HF : Hid (RdC wr u3 vs ∧ vs.length = (seL p).length ∧ (∀ k (hk : k < vs.length), KyR wr vs[k] (scK ((seL p).getD k (false, 0)).2 (!((seL p).getD k (false, 0)).1))) ∧ Below w.heap.size w wr) := by
        rw [← HE.out]
        refine ⟨hO.rdC rfl, HG.out.len, fun k hk => ?_, stepB HB1.out hO.below⟩
        exact KyR.of_rdE (RdE.of_own (hO.rows _ (List.mem_cons_of_mem _ (List.mem_cons_of_mem _ (HG.out.keys k hk)))))
      clear hO
      go_wp2
      go_ret
      exact ⟨_, _, rfl, HF.out⟩
end Go.Proofs.YtpoibhhijidobabGreatDoor

/- Whether all secrets are known: contracts of package pattern, eleventh part. -/
namespace Go.Proofs.YtpoibhhijidobabGreatDoor
open Go.ChangeShapes Go.WideShapes Go.ChangeAt Go.RowKit
set_option linter.unusedSimpArgs false
set_option linter.unusedVariables false

/-- A value is laid into a new variable. -/
theorem wpList_box_one {P : Program} {ops : Array Oper} {rest : List Oper} {op : Oper} {a : Act} {w : World} {Q : Exit → Act → World → Prop} (hgd : op.guard = none) (ty : TypeId) (x : Operand) (ho : op.op = .box ty x) (v : Value)
    (hx : a.eval x = v) (hrun : (Instr.box ty v).run P w = .ok (.pointer (some ⟨w.heap.size, 0, none⟩)) (w.alloc (.cells #[v] ty)))
    (h : ∀ w', BlkAt w.heap.size ty [v] w' → Below w.heap.size w w' → Hid (w'.heap.size = w.heap.size + 1) → wpList P ops Q rest (a.put op.dst (.pointer (some ⟨w.heap.size, 0, none⟩))) w') : wpList P ops Q (op :: rest) a w := by
  refine wpList_plain hgd fun K hK => ?_
  unfold Oper.wp execOp
  simp only [ho, hx, Sem.run_bind, hrun, Result.andThen_ok, Sem.run_pure]
  exact hK _ _ (h _ (BlkAt.fresh rfl rfl) (growB _) (show _ = _ by simp))
theorem box_kl (a : Option Addr) (n c : Nat) (w : World) : (Instr.box 39 (.slice a n c)).run Tryz.prog w = .ok (.pointer (some ⟨w.heap.size, 0, none⟩)) (w.alloc (.cells #[.slice a n c] 39)) := by kernel_rfl
theorem infoFn : (Tryz.prog.info? 67).map (fun i => (i.zero, i.size, i.bytes)) = some (some .nilFunc, 1, 8) := by kernel_rfl
/-- The functions that ask for a kind. -/
def fnC : Value := .func (.func 28) #[] #[]
def fnM : Value := .func (.func 29) #[] #[]
def fnL (curve kem : Bool) : List Value := (if curve then [fnC] else []) ++ (if kem then [fnM] else [])

set_option maxRecDepth 100000 in
set_option maxHeartbeats 4000000 in
theorem kinds_any (curve kem : Bool) (w : World) :
    Calls Tryz.prog 30 #[.bool curve, .bool kem] w fun e w' => ∃ v, e = .returned v ∧ RdC w' v (fnL curve kem) ∧ Below w.heap.size w w' := by
  obtain ⟨ti, hti, hz0, hz1, hz2⟩ := info_parts infoFn
  have hO0 : OwnG w [⟨67, 1, .slice none 0 0, 0, []⟩] w := (OwnG.start w).nil 67 1
  go_enter Tryz.func30, Tryz.ntmps30
  cases curve with
  | false =>
    cases kem with
    | false =>
      have HF : Hid (RdC w (.slice none 0 0) (fnL false false) ∧ Below w.heap.size w w) := ⟨RdC.nil w, Below.refl _ _⟩
      go_wp2
      go_ret
      exact ⟨_, rfl, HF.out⟩
    | true =>
      go_wp2_with (at_builtin; go_must (refine wpList_append_E rfl _ _ 70 rfl 67 ti _ 1 8 Tryz.underlying70 hti hz0 hz1 hz2 rfl (by decide) _ 0 [] rfl (hO0.kept (growB _)) ⟨w.heap.size, 0, none⟩ 1 1 [fnM] rfl rfl (news1 _ rfl) (by intro u hu; simp at hu; subst hu; rfl) (by unfold maxLen; omega) (by omega) ?_))
      intro v1 w1 hO1 hC1
      have HF : Hid (RdC w1 v1 (fnL false true) ∧ Below w.heap.size w w1) := ⟨hO1.rdC rfl, hO1.below⟩
      clear hO1 hC1 hO0
      go_wp2
      go_ret
      exact ⟨_, rfl, HF.out⟩
  | true =>
    go_wp2_with (at_builtin; go_must (refine wpList_append_E rfl _ _ 70 rfl 67 ti _ 1 8 Tryz.underlying70 hti hz0 hz1 hz2 rfl (by decide) _ 0 [] rfl (hO0.kept (growB _)) ⟨w.heap.size, 0, none⟩ 1 1 [fnC] rfl rfl (news1 _ rfl) (by intro u hu; simp at hu; subst hu; rfl) (by unfold maxLen; omega) (by omega) ?_))
    intro v1 w1 hO1 hC1
    replace hO1 : OwnG w [⟨67, 1, v1, 1, [fnC]⟩] w1 := hO1
    cases kem with
    | false =>
      have HF : Hid (RdC w1 v1 (fnL true false) ∧ Below w.heap.size w w1) := ⟨hO1.rdC rfl, hO1.below⟩
      clear hO1 hC1 hO0
      go_wp2
      go_ret
      exact ⟨_, rfl, HF.out⟩
    | true =>
      clear hO0 hC1
      go_wp2_with (at_builtin; go_must (refine wpList_append_E rfl _ _ 70 rfl 67 ti _ 1 8 Tryz.underlying70 hti hz0 hz1 hz2 rfl (by decide) _ 1 [fnC] rfl (hO1.kept (growB _)) ⟨w1.heap.size, 0, none⟩ 1 1 [fnM] rfl rfl (news1 _ rfl) (by intro u hu; simp at hu; subst hu; rfl) (by unfold maxLen; omega) (by omega) ?_))
      intro v2 w2 hO2 hC2
      have HF : Hid (RdC w2 v2 (fnL true true) ∧ Below w.heap.size w w2) := ⟨hO2.rdC rfl, hO2.below⟩
      clear hO1 hC2 hO2
      go_wp2
      go_ret
      exact ⟨_, rfl, HF.out⟩

set_option maxRecDepth 100000 in
set_option maxHeartbeats 2000000 in
theorem ask_any (K : FuncId) (f : Say → Bool) (b : Bool) (t : Int) (gs : Nat) (w : World) (hs : BlkAt gs 69 [.bool b, .int .i64 t] w) (hE : ∀ (args : Array Value) (w : World), (callFunc K args).run Tryz.prog w = .ok (.enter K args) w)
    (hK : ∀ (b : Bool) (t : Int) (W : World), Calls Tryz.prog K #[.agg #[.bool b, .int .i64 t]] W fun e w' => e = .returned (.bool (f (b, t))) ∧ Below W.heap.size W w') :
    Calls Tryz.prog 33 #[.func (.func K) #[] #[], .pointer (some ⟨gs, 0, none⟩)] w fun e w' => e = .returned (.bool (f (b, t))) ∧ Below w.heap.size w w' := by
  have HF : Hid (∀ (b : Bool) (t : Int) (W : World), Calls Tryz.prog K #[.agg #[.bool b, .int .i64 t]] W fun e w' => e = .returned (.bool (f (b, t))) ∧ Below W.heap.size W w') := hK
  clear hK
  go_enter Tryz.func33, Tryz.ntmps33
  go_wp2_with (refine wpList_load_part rfl 69 _ rfl rfl [] [.bool b, .int .i64 t] [] hs rfl rfl Tryz.underlying69 rfl infoSay2 ?_)
  refine (HF.out b t _).mono ?_
  rintro e w1 ⟨rfl, b1⟩
  go_wp2
  go_ret
  exact ⟨rfl, b1⟩

set_option maxRecDepth 100000 in
set_option maxHeartbeats 2000000 in
theorem known_any (k : Say) (ks : List Say) (gk : Nat) (v : Value) (A : Array Value) (hA : A = #[.bool k.1, .int .i64 k.2]) (w : World) (hg : BlkAt gk 39 [v] w) (h : KyR w v ks) :
    Calls Tryz.prog 36 #[.agg A, .pointer (some ⟨gk, 0, none⟩)] w fun e w' => e = .returned (.bool (ks.any fun q => q == k)) ∧ Below w.heap.size w w' := by
  obtain ⟨kb, kt⟩ := k
  obtain ⟨a, c, rfl, -, -⟩ := ky_len15 h
  have HK : Hid (KyR w (.slice a ks.length c) ks) := h
  clear h
  go_enter Tryz.func36, Tryz.ntmps36
  go_wp2_with (refine wpList_box_blk rfl 76 _ rfl [.bool kb, .int .i64 kt] (by rw [← hA]; rfl) ?_)
  intro w1 q1 b1 s1
  have c0 : w1.cell? ⟨gk, 0, none⟩ = some (.slice a ks.length c) := (hg.kept b1).cell 0
  clear s1 hA hg
  go_wp2_with (refine wpList_load_part rfl 76 _ rfl rfl [] [.bool kb, .int .i64 kt] [] q1 rfl rfl Tryz.underlying76 rfl infoKey2 ?_)
  refine (keyIn_any (kb, kt) ks _ _ rfl _ (HK.out.kept b1)).mono ?_
  rintro e w2 ⟨rfl, b2⟩
  go_wp2
  go_ret
  exact ⟨rfl, stepB b1 b2⟩

theorem range_miss {n : Nat} {f : Nat → Bool} (h : ∀ k, k < n → f k = false) : (List.range n).any f = false := by
  rw [List.any_eq_false]
  intro x hx
  rw [h x (List.mem_range.1 hx)]
  simp
theorem range_hit {n : Nat} {f : Nat → Bool} {k : Nat} (hk : k < n) (h : f k = true) : (List.range n).any f = true := by
  rw [List.any_eq_true]
  exact ⟨k, List.mem_range.2 hk, h⟩

set_option maxRecDepth 100000 in
set_option maxHeartbeats 4000000 in
theorem fnIdx_any (K : FuncId) (ra la : Array Value) (f : Nat → Bool) (fs : List Value) (v : Value) (w : World) (h : RdC w v fs) (hE : ∀ (args : Array Value) (w : World), (callFunc K args).run Tryz.prog w = .ok (.enter K args) w)
    (hK : ∀ i (hi : i < fs.length), ∀ W, Below w.heap.size w W → Calls Tryz.prog K (ra ++ #[fs[i]] ++ la) W fun e w' => e = .returned (.bool (f i)) ∧ Below W.heap.size W w') :
    Calls Tryz.prog 57 #[v, .func (.func K) ra la] w fun e w' => (∃ r : Int, e = .returned (.int .i64 r) ∧ decide (0 ≤ r) = (List.range fs.length).any f) ∧ Below w.heap.size w w' := by
  have HF : Hid _ := hK
  obtain ⟨a, cap, rfl, hl, hm, -, -⟩ := id h
  obtain ⟨n, hn⟩ : ∃ n : Nat, n = fs.length := ⟨_, rfl⟩
  rw [← hn] at h hl
  have HN : Hid (n = fs.length) := hn
  unfold maxLen at hm
  have HK1 : Hid (RdC w (.slice a n cap) fs) := h
  rw [← hn]
  clear h hn hK
  go_enter Tryz.func57, Tryz.ntmps57
  go_wp2
  go_loopw [8] (fun iv wx => ∃ i : Nat, i ≤ n ∧ iv = .int .i64 (i : Int) ∧ Hid (∀ j, j < i → f j = false) ∧ Below w.heap.size w wx) (fun iv _ => n - (intOf iv).toNat)
  case atStart => exact ⟨0, by omega, rfl, (by show ∀ k, _; intro k hk; omega), Below.refl _ _⟩
  case round =>
    obtain ⟨i, hi, rfl, HI, hbx⟩ := hrel
    by_cases hlt : i < n
    · have hd : decide ((i : Int) < (n : Int)) = true := decide_eq_true (by omega)
      have hiI : (i : Int) < (n : Int) := by omega
      have HIn : Hid (i < fs.length) := by show _ < _; rw [← HN.out]; exact hlt
      obtain ⟨b, off, c', ev, -, -, g1⟩ := HK1.out.cellAt HIn.out
      simp only [Value.slice.injEq] at ev
      obtain ⟨rfl, -, rfl⟩ := ev
      replace g1 := cellKP g1 hbx
      have HC := HF.out i HIn.out _ hbx
      generalize fs[i]'HIn.out = x at g1 HC
      have HC : Hid (Calls Tryz.prog K (ra ++ #[x] ++ la) wr fun e w' => e = .returned (.bool (f i)) ∧ Below wr.heap.size wr w') := HC
      go_wp2_with fail
      refine HC.out.mono ?_
      rintro e w2 ⟨rfl, b2⟩
      obtain ⟨y, hy⟩ : ∃ y : Bool, y = f i := ⟨_, rfl⟩
      rw [← hy]
      have HY : Hid (y = f i) := hy
      have hbx2 := stepB hbx b2
      clear hy HC b2
      cases y with
      | true =>
        have HO : Hid ((List.range n).any f = true) := range_hit hlt HY.out.symm
        go_wp2
        go_ret
        exact ⟨⟨_, rfl, by rw [HO.out]; exact decide_eq_true (by omega)⟩, hbx2⟩
      | false =>
        have HI2 : Hid (∀ j, j < i + 1 → f j = false) := by
          show ∀ j, _
          intro j hj
          rcases Nat.lt_or_ge j i with h | h
          · exact HI.out j h
          · rw [show j = i by omega]; exact HY.out.symm
        go_wp2
        go_roundw
        case rel => exact ⟨i + 1, by omega, by go_num, HI2, hbx2⟩
        case measure => simp [intOf] <;> omega
    · have hd : decide ((i : Int) < (n : Int)) = false := decide_eq_false (by omega)
      have hiI : (n : Int) ≤ (i : Int) := by omega
      have HO : Hid ((List.range n).any f = false) := range_miss fun k hk => HI.out k (by omega)
      go_wp2
      go_ret
      exact ⟨⟨_, rfl, by rw [HO.out]; rfl⟩, hbx⟩

set_option maxHeartbeats 2000000 in
theorem fnAny_any (K : FuncId) (ra la : Array Value) (f : Nat → Bool) (fs : List Value) (v : Value) (w : World) (h : RdC w v fs) (hE : ∀ (args : Array Value) (w : World), (callFunc K args).run Tryz.prog w = .ok (.enter K args) w)
    (hK : ∀ i (hi : i < fs.length), ∀ W, Below w.heap.size w W → Calls Tryz.prog K (ra ++ #[fs[i]] ++ la) W fun e w' => e = .returned (.bool (f i)) ∧ Below W.heap.size W w') :
    Calls Tryz.prog 32 #[v, .func (.func K) ra la] w fun e w' => e = .returned (.bool ((List.range fs.length).any f)) ∧ Below w.heap.size w w' := by
  have HF : Hid (Calls Tryz.prog 57 #[v, .func (.func K) ra la] w fun e w' => (∃ r : Int, e = .returned (.int .i64 r) ∧ decide (0 ≤ r) = (List.range fs.length).any f) ∧ Below w.heap.size w w') := fnIdx_any K ra la f fs v w h hE hK
  clear hK h hE
  go_enter Tryz.func32, Tryz.ntmps32
  go_wp2_with fail
  refine HF.out.mono ?_
  rintro e w2 ⟨⟨r, rfl, hr⟩, b2⟩
  have HR : Hid (decide (0 ≤ r) = (List.range fs.length).any f) := hr
  clear hr
  go_wp2
  go_ret
  exact ⟨by rw [← HR.out]; rfl, b2⟩
/-- What the kinds answer. -/
def fnF (curve : Bool) (s : Say) (i : Nat) : Bool := if curve && decide (i = 0) then cvB s.2 else kmB s.2
theorem fn_any (curve kem : Bool) (s : Say) : (List.range (fnL curve kem).length).any (fnF curve s) = ((curve && cvB s.2) || (kem && kmB s.2)) := by
  cases curve <;> cases kem <;> simp [fnL, fnF, List.range_succ]
theorem ask_all (curve kem : Bool) (b : Bool) (t : Int) (gs : Nat) (W : World) (hs : BlkAt gs 69 [.bool b, .int .i64 t] W) (i : Nat) (hi : i < (fnL curve kem).length) :
    Calls Tryz.prog 33 #[(fnL curve kem)[i], .pointer (some ⟨gs, 0, none⟩)] W fun e w' => e = .returned (.bool (fnF curve (b, t) i)) ∧ Below W.heap.size W w' := by
  have hC := ask_any 28 (fun s => cvB s.2) b t gs W hs (fun args w => enters15 Tryz.func28 (by kernel_rfl) rfl args w) (fun b t W => ofCurve_any b t _ rfl W)
  have hM := ask_any 29 (fun s => kmB s.2) b t gs W hs (fun args w => enters15 Tryz.func29 (by kernel_rfl) rfl args w) (fun b t W => ofKem_any b t _ rfl W)
  match curve, kem, i, hi with
  | false, false, i, hi => simp [fnL] at hi
  | false, true, 0, _ => exact hM
  | true, false, 0, _ => exact hC
  | true, true, 0, _ => exact hC
  | true, true, 1, _ => exact hM
  | false, true, i + 1, hi => simp [fnL] at hi
  | true, false, i + 1, hi => simp [fnL] at hi
  | true, true, i + 2, hi => simp [fnL] at hi; omega
theorem argsD (x y : Value) : (#[] : Array Value) ++ #[x] ++ #[y] = #[x, y] := rfl
theorem dr_false {p : Ptn} {curve kem : Bool} {known : List Say} {i : Nat} (hi : i < (seL p).length) (h : drS curve kem known ((seL p).getD i (false, 0)) = false) : drB p curve kem known = false := by
  rw [dr_eq]
  have : (seL p).all (drS curve kem known) = false := by
    rw [List.all_eq_false]
    refine ⟨(seL p).getD i (false, 0), ?_, by rw [h]; simp⟩
    simp [hi]
  rw [this, Bool.and_false]
theorem dr_true {p : Ptn} {curve kem : Bool} {known : List Say} (hw : wrB p = true) (h : ∀ i, i < (seL p).length → drS curve kem known ((seL p).getD i (false, 0)) = true) : drB p curve kem known = true := by
  rw [dr_eq, hw]
  have : (seL p).all (drS curve kem known) = true := by
    rw [List.all_eq_true]
    intro x hx
    obtain ⟨k, hk, rfl⟩ := List.mem_iff_getElem.1 hx
    have := h k hk
    simpa [hk] using this
  rw [this]
  rfl

set_option maxRecDepth 100000 in
set_option maxHeartbeats 8000000 in
theorem derivable_any (p : Ptn) (vm : Value) (curve kem : Bool) (known : List Say) (vn : Value) (A : Array Value) (hA : A = (paC p vm).toArray) (hnm : p.name.length ≤ maxLen) (w : World) (h : MsR w vm p) (hk : KyR w vn known) :
    Calls Tryz.prog 14 #[.agg A, .bool curve, .bool kem, vn] w fun e w' => e = .returned (.bool (drB p curve kem known)) ∧ Below w.heap.size w w' := by
  obtain ⟨an, cn, rfl, -, -⟩ := ky_len15 hk
  obtain ⟨R, hR⟩ : ∃ r : Bool, r = drB p curve kem known := ⟨_, rfl⟩
  have HR : Hid (R = drB p curve kem known) := hR
  rw [← hR]
  have HM : Hid (MsR w vm p) := h
  have HKn : Hid (KyR w (.slice an known.length cn) known) := hk
  have HNm : Hid (p.name.length ≤ maxLen) := hnm
  obtain ⟨kn, hkn⟩ : ∃ n : Nat, n = known.length := ⟨_, rfl⟩
  rw [← hkn] at HKn
  rw [← hkn]
  clear h hk hR hnm hkn
  go_enter Tryz.func14, Tryz.ntmps14
  go_wp2_with (refine wpList_box_blk rfl 25 _ rfl (paC p vm) (by rw [← hA]; rfl) ?_)
  intro w0 r0 b0 s0
  go_wp2_with (refine wpList_box_one rfl 39 _ rfl (.slice an kn cn) rfl (box_kl _ _ _ _) ?_)
  intro w1 q1 b1 s1
  have r1 := r0.kept b1
  have HB1 : Hid (Below w.heap.size w w1) := stepB b0 b1
  have HM1 : Hid (MsR w1 vm p) := HM.out.kept HB1.out
  have HK1 : Hid (KyR w1 (.slice an kn cn) known) := HKn.out.kept HB1.out
  obtain ⟨gk, hgk⟩ : ∃ g : Nat, g = w0.heap.size := ⟨_, rfl⟩
  rw [← hgk] at q1 ⊢
  have HQ1 : Hid (BlkAt gk 39 [.slice an kn cn] w1) := q1
  clear s0 s1 hA HM HKn r0 b0 b1 hgk q1
  go_wp2_with (refine wpList_load_part rfl 25 _ rfl rfl [] (paC p vm) [] r1 (whole15 _) rfl Tryz.underlying25 rfl (paInfo p vm) ?_)
  refine (writable_any p vm _ rfl HNm.out _ HM1.out).mono ?_
  rintro e w2 ⟨rfl, b2⟩
  replace r1 := r1.kept b2
  have HM2 : Hid (MsR w2 vm p) := HM1.out.kept b2
  have HB2 : Hid (Below w.heap.size w w2) := stepB HB1.out b2
  have HK2 : Hid (KyR w2 (.slice an kn cn) known) := HK1.out.kept b2
  have HQ2 : Hid (BlkAt gk 39 [.slice an kn cn] w2) := HQ1.out.kept b2
  obtain ⟨y, hy⟩ : ∃ y : Bool, y = wrB p := ⟨_, rfl⟩
  rw [← hy]
  have HY : Hid (y = wrB p) := hy
  clear hy b2 HM1 HK1 HQ1 HB1
  cases y with
  | false =>
    have HF : Hid (R = false) := by show _ = _; rw [HR.out]; unfold drB; rw [← HY.out]; rfl
    go_wp2
    go_ret
    exact ⟨by rw [HF.out]; rfl, HB2.out⟩
  | true =>
    go_wp2_with fail
    refine (kinds_any curve kem _).mono ?_
    rintro e w3 ⟨vf, rfl, hRf, b3⟩
    replace r1 := r1.kept b3
    have HM3 : Hid (MsR w3 vm p) := HM2.out.kept b3
    have HB3 : Hid (Below w.heap.size w w3) := stepB HB2.out b3
    have HK3 : Hid (KyR w3 (.slice an kn cn) known) := HK2.out.kept b3
    have HQ3 : Hid (BlkAt gk 39 [.slice an kn cn] w3) := HQ2.out.kept b3
    have HF3 : Hid (RdC w3 vf (fnL curve kem)) := hRf
    clear b3 HM2 HB2 HK2 HQ2 hRf
    go_wp2_with (refine wpList_load_part rfl 25 _ rfl rfl [] (paC p vm) [] r1 (whole15 _) rfl Tryz.underlying25 rfl (paInfo p vm) ?_)
    refine (secretsOf_any 31 (fun s => scB s.2) p vm _ rfl HNm.out _ HM3.out (fun args w => enters15 Tryz.func31 (by kernel_rfl) rfl args w) (fun b t W => isSecret_any b t _ rfl W)).mono ?_
    rintro e w4 ⟨v, rfl, hO⟩
    obtain ⟨SL, hSL⟩ : ∃ l : List Say, l = slF p fun s => scB s.2 := ⟨_, rfl⟩
    rw [← hSL] at hO
    have HSL : Hid (seL p = SL) := by show _ = _; rw [hSL]; rfl
    have hLb : SL.length ≤ 96 := by rw [hSL]; exact slF_len _
    obtain ⟨a, cap, rfl, hl1, hl2⟩ := ky_len15 (hO.ky rfl)
    obtain ⟨N, hN⟩ : ∃ N : Nat, N = SL.length := ⟨_, rfl⟩
    have HN : Hid (N = SL.length) := hN
    have hNb : N ≤ 96 := by rw [hN]; exact hLb
    rw [← hN] at hl1 hO ⊢
    have HS4 : Hid (KyR w4 (.slice a N cap) SL) := hO.ky hN
    have HB4 : Hid (Below w.heap.size w w4) := stepB HB3.out hO.below
    have HK4 : Hid (KyR w4 (.slice an kn cn) known) := HK3.out.kept hO.below
    have HQ4 : Hid (BlkAt gk 39 [.slice an kn cn] w4) := HQ3.out.kept hO.below
    have HF4 : Hid (RdC w4 vf (fnL curve kem)) := HF3.out.kept hO.below
    unfold maxLen at hl2
    clear hO r1 hN hSL hLb HM3 HB3 HK3 HQ3 HF3
    go_wp2
    go_loopw [23] (fun iv wx => ∃ i : Nat, i ≤ N ∧ iv = .int .i64 (i : Int) ∧ Hid (∀ j, j < i → drS curve kem known (SL.getD j (false, 0)) = true) ∧ Below w4.heap.size w4 wx) (fun iv _ => N - (intOf iv).toNat)
    case atStart => exact ⟨0, by omega, rfl, (by show ∀ j, _; intro j hj; omega), Below.refl _ _⟩
    case round =>
      obtain ⟨i, hi, rfl, HI, hbx⟩ := hrel
      by_cases hlt : i < N
      · have hd : decide ((i : Int) < (N : Int)) = true := decide_eq_true (by omega)
        have hiI : (i : Int) < (N : Int) := by omega
        have HIn : Hid (i < SL.length) := by show _ < _; rw [← HN.out]; exact hlt
        obtain ⟨b, off, rfl, g1, g2⟩ := (HS4.out.kept hbx).at HIn.out
        obtain ⟨x, hx⟩ : ∃ x : Say, x = SL.getD i (false, 0) := ⟨_, rfl⟩
        rw [← hx] at g1 g2
        have HX : Hid (x = SL.getD i (false, 0)) := hx
        obtain ⟨xb, xt⟩ := x
        have hrg := range_two g1 g2
        clear hx g1 g2
        go_wp2_with (first
          | refine wpList_load_mid rfl 69 _ rfl b (off + i * 2) rfl [.bool xb, .int .i64 xt] _ hrg Tryz.underlying69 rfl infoSay2 ?_
          | refine wpList_alloc_blk rfl 69 rfl [.bool false, .int .i64 0] (allocSay _) ?_)
        intro w5 r5 b5 s5
        go_wp2_with (refine wpList_store_part rfl 69 _ _ rfl rfl [.bool xb, .int .i64 xt] rfl [] [.bool false, .int .i64 0] [] [.bool xb, .int .i64 xt] r5 rfl rfl rfl rfl infoSay2 (oneSayA xb xt) ?_)
        intro w6 r6 hw6
        have hb6 : Below w4.heap.size w4 w6 := stepB hbx (hw6.below _ _ (Nat.le_refl _) b5)
        obtain ⟨gs, hgs⟩ : ∃ g : Nat, g = wr.heap.size := ⟨_, rfl⟩
        rw [← hgs] at r6 ⊢
        have HF6 : Hid (RdC w6 vf (fnL curve kem)) := HF4.out.kept hb6
        have HR6 : Hid (BlkAt gs 69 [.bool xb, .int .i64 xt] w6) := r6
        clear r5 b5 s5 hw6 hrg hgs
        go_wp2_with fail
        refine (fnAny_any 33 #[] #[.pointer (some ⟨gs, 0, none⟩)] (fnF curve (xb, xt)) (fnL curve kem) vf _ HF6.out (fun args w => enters15 Tryz.func33 (by kernel_rfl) rfl args w) (fun j hj W hW => by rw [argsD]; exact ask_all curve kem xb xt gs W (HR6.out.kept hW) j hj)).mono ?_
        rintro e w7 ⟨rfl, b7⟩
        rw [fn_any]
        replace r6 := r6.kept b7
        have hb7 := stepB hb6 b7
        obtain ⟨s1, hs1⟩ : ∃ y : Bool, y = ((curve && cvB (xb, xt).2) || (kem && kmB (xb, xt).2)) := ⟨_, rfl⟩
        rw [← hs1]
        have HS1 : Hid (s1 = ((curve && cvB xt) || (kem && kmB xt))) := hs1
        clear hs1 b7 hb6 HF6 HR6
        go_wp2_with (refine wpList_load_part rfl 69 _ rfl rfl [] [.bool xb, .int .i64 xt] [] r6 rfl rfl Tryz.underlying69 rfl infoSay2 ?_)
        refine (guards_any xb xt _ rfl _).mono ?_
        rintro e w8 ⟨vg, rfl, hOg⟩
        have hb8 := stepB hb7 hOg.below
        have HG : Hid (KyR w8 vg (scK xt (!xb))) := hOg.ky rfl
        have HQ8 : Hid (BlkAt gk 39 [.slice an kn cn] w8) := HQ4.out.kept hb8
        have HK8 : Hid (KyR w8 (.slice an kn cn) known) := HK4.out.kept hb8
        clear hOg r6 hb7
        go_wp2_with fail
        refine (keyAny_any 36 #[] #[.pointer (some ⟨gk, 0, none⟩)] (fun k => known.any fun q => q == k) (scK xt (!xb)) vg _ HG.out (fun args w => enters15 Tryz.func36 (by kernel_rfl) rfl args w) (fun k _ W hW => by rw [argsD]; exact known_any k known gk _ _ rfl W (HQ8.out.kept hW) (HK8.out.kept hW))).mono ?_
        rintro e w9 ⟨rfl, b9⟩
        have hb9 := stepB hb8 b9
        obtain ⟨s2, hs2⟩ : ∃ y : Bool, y = (scK xt (!xb)).any fun k => known.any fun q => q == k := ⟨_, rfl⟩
        rw [← hs2]
        have HD : Hid (drS curve kem known (SL.getD i (false, 0)) = (s1 || s2)) := by show _ = _; rw [← HX.out, HS1.out, hs2]; rfl
        clear hs2 b9 hb8 HG HQ8 HK8
        have hcase : (s1 = false ∧ s2 = false) ∨ ((s1 || s2) = true ∧ (s1 = true ∨ (s1 = false ∧ s2 = true))) := by cases s1 <;> cases s2 <;> simp
        rcases hcase with ⟨rfl, rfl⟩ | ⟨ht, hcs⟩
        · have HF : Hid (R = false) := by show _ = _; rw [HR.out]; exact dr_false (i := i) (by rw [HSL.out]; exact HIn.out) (by rw [HSL.out, HD.out]; rfl)
          go_wp2
          go_ret
          exact ⟨by rw [HF.out]; rfl, stepB HB4.out hb9⟩
        · have HI2 : Hid (∀ j, j < i + 1 → drS curve kem known (SL.getD j (false, 0)) = true) := by
            show ∀ j, _
            intro j hj
            rcases Nat.lt_or_ge j i with h | h
            · exact HI.out j h
            · rw [show j = i by omega, HD.out]; exact ht
          clear ht
          rcases hcs with rfl | ⟨rfl, rfl⟩
          all_goals
            go_wp2
            go_roundw
            case rel => exact ⟨i + 1, by omega, by go_num, HI2, hb9⟩
            case measure => simp [intOf] <;> omega
      · have hd : decide ((i : Int) < (N : Int)) = false := decide_eq_false (by omega)
        have hiI : (N : Int) ≤ (i : Int) := by omega
        have HO : Hid (R = true) := by show _ = _; rw [HR.out]; exact dr_true HY.out.symm (fun j hj => by rw [HSL.out]; exact HI.out j (by rw [HSL.out, ← HN.out] at hj; omega))
        go_wp2
        go_ret
        exact ⟨by rw [HO.out]; rfl, stepB HB4.out hbx⟩
end Go.Proofs.YtpoibhhijidobabGreatDoor
