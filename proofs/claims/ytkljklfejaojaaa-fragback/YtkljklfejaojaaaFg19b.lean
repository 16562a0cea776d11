/- A new list, of those that do not go: contracts of package frag, second part. -/
import Derived.Test.YtkljklfejaojaaaFg19a
namespace Go.Proofs.Ytkljklfejaojaaa
open Go.ChangeShapes Go.WideShapes Go.ChangeAt Go.RowKit
set_option linter.unusedSimpArgs false
set_option linter.unusedVariables false

theorem filter_takeF {α : Type _} (f : α → Bool) (d : α) (l : List α) (i : Nat) (h : i < l.length) : (l.take (i + 1)).filter f = (l.take i).filter f ++ if f (l.getD i d) = true then [l.getD i d] else [] := by
  rw [List.take_succ_eq_append_getElem h, List.filter_append]
  simp [h, List.filter_cons]
def keY (f : Ey → Bool) (xs : List Ey) : List Ey := xs.filter fun x => !f x
theorem keY_len (f : Ey → Bool) (xs : List Ey) : (keY f xs).length ≤ xs.length := List.length_filter_le _ _
theorem keY_take (f : Ey → Bool) (xs : List Ey) {j : Nat} (h : j < xs.length) : keY f (xs.take (j + 1)) = keY f (xs.take j) ++ if f (xs.getD j noY) = true then [] else [xs.getD j noY] := by
  unfold keY
  rw [filter_takeF _ noY xs j h]
  congr 1
  cases f (xs.getD j noY) <;> rfl
theorem keY_all {f : Ey → Bool} {xs : List Ey} (h : ∀ j, j < xs.length → f (xs.getD j noY) = false) : keY f xs = xs := by
  refine List.filter_eq_self.2 fun x hx => ?_
  obtain ⟨j, hj, rfl⟩ := List.getElem_of_mem hx
  have := h j hj
  simp [hj] at this
  simp [this]
/-- A row of one's own is kept in part. -/
theorem own_cut {w : World} {base : Nat} {e : TypeId} {g n cap k : Nat} {cs : List Value} (h : w.ownsRow base e 1 (.slice (some ⟨g, 0, none⟩) n cap) n cs) (hk : k ≤ n) : w.ownsRow base e 1 (.slice (some ⟨g, 0, none⟩) k cap) k (cs.take k) := by
  rcases h.2 with ⟨h', _⟩ | ⟨g', cap', cur, h', hb, hg, hnc, hcm, hcs, ht⟩
  · simp at h'
  · simp only [Value.slice.injEq, Option.some.injEq, Addr.mk.injEq, and_true, true_and] at h'
    obtain ⟨rfl, rfl⟩ := h'
    refine ⟨by rw [List.length_take, h.1]; omega, .inr ⟨g, cap, cur, rfl, hb, hg, by omega, hcm, hcs, ?_⟩⟩
    rw [← ht, List.take_take]
    congr 1
    omega
theorem own_cells {base : Nat} {e : TypeId} {g n cap : Nat} : ∀ (vs : List Value) (o : Nat) (w : World) (cs : List Value), w.ownsRow base e 1 (.slice (some ⟨g, 0, none⟩) n cap) n cs →
    ∃ cs', (w.setCells g o vs).ownsRow base e 1 (.slice (some ⟨g, 0, none⟩) n cap) n cs' ∧ (∀ t, t < o → cs'[t]? = cs[t]?) ∧ w.grownBy (w.setCells g o vs) (some g)
  | [], o, w, cs, h => ⟨cs, h, fun _ _ => rfl, World.grownBy.refl _ _⟩
  | v :: vs, o, w, cs, h => by
    obtain ⟨h1, h2⟩ := h.stored o v
    obtain ⟨cs', h3, h4, h5⟩ := own_cells vs (o + 1) _ _ h1
    refine ⟨cs', h3, fun t ht => ?_, ?_⟩
    · rw [h4 t (by omega), List.getElem?_set_ne (by omega)]
    · refine ⟨h5.os.trans h2.os, h5.tape.trans h2.tape, h5.output.trans h2.output, Nat.le_trans h2.size h5.size, fun k hk hn => ?_⟩
      exact (h5.block k (Nat.lt_of_lt_of_le hk h2.size) hn).trans (h2.block k hk hn)
/-- A list that is being cut down: i are kept of the first j. -/
structure Del (f : Ey → Bool) (xs : List Ey) (wb : World) (g cap i j : Nat) (cs : List Value) (w : World) : Prop where
  own : w.ownsRow wb.heap.size 66 1 (.slice (some ⟨g, 0, none⟩) xs.length cap) xs.length cs
  below : Below wb.heap.size wb w
  lt : i < j
  le : j ≤ xs.length
  num : i = (keY f (xs.take j)).length
  low : ∀ t, t < i → cs[t]? = (pvs (keY f (xs.take j)))[t]?
  high : ∀ t, j ≤ t → cs[t]? = (pvs xs)[t]?
theorem Del.len {f : Ey → Bool} {xs : List Ey} {wb w : World} {g cap i j : Nat} {cs : List Value} (h : Del f xs wb g cap i j cs w) : cs.length = xs.length := by
  have := h.own.1
  rwa [Nat.mul_one] at this
theorem Del.kept {f : Ey → Bool} {xs : List Ey} {wb w w' : World} {g cap i j : Nat} {cs : List Value} (h : Del f xs wb g cap i j cs w) (hb : Below w.heap.size w w') : Del f xs wb g cap i j cs w' :=
  ⟨own_keptG h.own hb, stepB h.below hb, h.lt, h.le, h.num, h.low, h.high⟩
theorem Del.start {f : Ey → Bool} {xs : List Ey} {wb w : World} {g cap i : Nat} (hi : i < xs.length) (h0 : ∀ j, j < i → f (xs.getD j noY) = false) (h1 : f (xs.getD i noY) = true)
    (ho : w.ownsRow wb.heap.size 66 1 (.slice (some ⟨g, 0, none⟩) xs.length cap) xs.length (pvs xs)) (hb : Below wb.heap.size wb w) : Del f xs wb g cap i (i + 1) (pvs xs) w := by
  have e : keY f (xs.take (i + 1)) = xs.take i := by
    rw [keY_take f xs hi, if_pos h1, List.append_nil]
    refine keY_all fun j hj => ?_
    rw [List.length_take] at hj
    have := h0 j (by omega)
    simpa [show j < xs.length by omega, show j < i by omega] using this
  refine ⟨ho, hb, by omega, by omega, by rw [e, List.length_take]; omega, fun t ht => ?_, fun t _ => rfl⟩
  rw [e]
  simp [pvs, List.getElem?_take, ht]
theorem Del.skip {f : Ey → Bool} {xs : List Ey} {wb w : World} {g cap i j : Nat} {cs : List Value} (h : Del f xs wb g cap i j cs w) (hj : j < xs.length) (hf : f (xs.getD j noY) = true) : Del f xs wb g cap i (j + 1) cs w := by
  have e : keY f (xs.take (j + 1)) = keY f (xs.take j) := by rw [keY_take f xs hj, if_pos hf, List.append_nil]
  exact ⟨h.own, h.below, by have := h.lt; omega, by omega, by rw [e]; exact h.num, by rw [e]; exact h.low, fun t ht => h.high t (by omega)⟩
theorem Del.keep {f : Ey → Bool} {xs : List Ey} {wb w : World} {g cap i j : Nat} {cs : List Value} (h : Del f xs wb g cap i j cs w) (hj : j < xs.length) (hf : f (xs.getD j noY) = false) :
    Del f xs wb g cap (i + 1) (j + 1) (cs.set i (pV (xs.getD j noY).g)) (w.setCell ⟨g, i, none⟩ (pV (xs.getD j noY).g)) := by
  have e : keY f (xs.take (j + 1)) = keY f (xs.take j) ++ [xs.getD j noY] := by rw [keY_take f xs hj, if_neg (by rw [hf]; decide)]
  obtain ⟨h1, h2⟩ := h.own.stored i (pV (xs.getD j noY).g)
  have hlt := h.lt
  refine ⟨h1, h.below.grown h2 h.below.size (fun k hk => by cases hk; exact (h.own.lt g rfl).1), by omega, by omega, by rw [e, List.length_append, ← h.num]; rfl, fun t ht => ?_, fun t ht => ?_⟩
  · rw [e]
    by_cases ht' : t < i
    · rw [List.getElem?_set_ne (by omega), h.low t ht']
      unfold pvs
      rw [List.map_append, List.getElem?_append_left (by rw [List.length_map, ← h.num]; exact ht')]
    · have : t = i := by omega
      subst this
      rw [List.getElem?_set_self (by rw [h.len]; omega)]
      unfold pvs
      rw [List.map_append, List.getElem?_append_right (by rw [List.length_map, ← h.num]; exact Nat.le_refl _), List.length_map, ← h.num]
      simp
  · rw [List.getElem?_set_ne (by omega), h.high t (by omega)]
theorem Del.cells {f : Ey → Bool} {xs : List Ey} {wb w : World} {g cap i j : Nat} {cs : List Value} (h : Del f xs wb g cap i j cs w) (hj : j < xs.length) : w.cell? ⟨g, j, none⟩ = some (pV (xs.getD j noY).g) ∧ (∃ u, w.cell? ⟨g, i, none⟩ = some u) ∧ w.frozen? ⟨g, i, none⟩ = false := by
  have hl := h.len
  have hlt := h.lt
  have hcell : ∀ t, t < xs.length → w.cell? ⟨g, t, none⟩ = cs[t]? := fun t ht => by
    obtain ⟨g', cap', e, -, -, -, -, h5⟩ := own_place h.own (by omega)
    simp only [Value.slice.injEq, Option.some.injEq, Addr.mk.injEq, and_true, true_and] at e
    obtain ⟨rfl, rfl⟩ := e
    exact h5 t (by omega)
  refine ⟨by rw [hcell j hj, h.high j (Nat.le_refl _), pvs_get xs hj], ⟨cs[i]'(by omega), ?_⟩, h.own.frozenAt i⟩
  rw [hcell i (by omega)]
  exact List.getElem?_eq_getElem (by omega)
theorem Del.done {f : Ey → Bool} {xs : List Ey} {wb w : World} {g cap i : Nat} {cs : List Value} (h : Del f xs wb g cap i xs.length cs w) :
    (∀ ty, (Builtin.clear_ #[61] ty #[.slice (some ⟨g, i, none⟩) (xs.length - i) (cap - i)]).run Try.prog w = .ok (.tuple #[]) (w.setCells g i (List.replicate (xs.length - i) (.pointer none)))) ∧
    (w.setCells g i (List.replicate (xs.length - i) (.pointer none))).ownsRow wb.heap.size 66 1 (.slice (some ⟨g, 0, none⟩) i cap) i (pvs (keY f xs)) ∧ i = (keY f xs).length ∧
    Below wb.heap.size wb (w.setCells g i (List.replicate (xs.length - i) (.pointer none))) := by
  have hl := h.len
  have hlt := h.lt
  have e : keY f (xs.take xs.length) = keY f xs := by rw [List.take_length]
  have hnum := h.num
  rw [e] at hnum
  refine ⟨fun ty => ?_, ?_, hnum, ?_⟩
  · obtain ⟨g', cap', e', -, -, -, hfr, hc⟩ := own_place h.own (by omega)
    simp only [Value.slice.injEq, Option.some.injEq, Addr.mk.injEq, and_true, true_and] at e'
    obtain ⟨rfl, rfl⟩ := e'
    refine Lib.run_clear_slice w _ 66 ty _ Try.underlying61 (by intro w; kernel_rfl) rfl rfl g i _ _ (by omega) (fun t ht => ?_) fun t _ => hfr _
    rw [hc (i + t) (by omega), List.getElem?_eq_getElem (by omega)]
    rfl
  · obtain ⟨cs', h1, h2, h3⟩ := own_cells (List.replicate (xs.length - i) (.pointer none)) i w cs h.own
    have h4 := own_cut h1 (k := i) (by omega)
    have e2 : cs'.take i = pvs (keY f xs) := by
      refine List.ext_getElem? fun t => ?_
      rw [List.getElem?_take]
      by_cases ht : t < i
      · rw [if_pos ht, h2 t ht, h.low t ht, e]
      · rw [if_neg ht, List.getElem?_eq_none (by rw [pvs_length]; omega)]
    rwa [e2] at h4
  · obtain ⟨cs', h1, h2, h3⟩ := own_cells (List.replicate (xs.length - i) (.pointer none)) i w cs h.own
    exact h.below.grown h3 h.below.size fun k hk => by cases hk; exact (h.own.lt g rfl).1

set_option maxRecDepth 100000 in
set_option maxHeartbeats 4000000 in
theorem delF_any (K : FuncId) (caps : Array Value) (f : Ey → Bool) (xs : List Ey) (v : Value) (wb w : World) (hB : Below wb.heap.size wb w) (hR : w.ownsRow wb.heap.size 66 1 v xs.length (pvs xs)) (hE : ∀ (args : Array Value) (w : World), (callFunc K args).run Try.prog w = .ok (.enter K args) w)
    (hK : ∀ x ∈ xs, ∀ W, Below wb.heap.size wb W → Calls Try.prog K (#[pV x.g] ++ caps) W fun e w' => e = .returned (.bool (f x)) ∧ Below W.heap.size W w') :
    Calls Try.prog 45 #[v, .func (.func K) #[] caps] w fun e w' => ∃ v', e = .returned v' ∧ w'.ownsRow wb.heap.size 66 1 v' (keY f xs).length (pvs (keY f xs)) ∧ Below wb.heap.size wb w' := by
  have HI := idxF_any K caps f xs v wb w hB (RdC.of_own hR) hE hK
  by_cases hall : ∀ j, j < xs.length → f (xs.getD j noY) = false
  · rw [(ixI_miss hall).1] at HI
    have HE : Hid (keY f xs = xs) := keY_all hall
    have HR : Hid (w.ownsRow wb.heap.size 66 1 v xs.length (pvs xs)) := hR
    have HB : Hid (Below wb.heap.size wb w) := hB
    have HC : Hid (Calls Try.prog 52 #[v, .func (.func K) #[] caps] w fun e w' => e = .returned (.int .i64 (-1)) ∧ Below w.heap.size w w') := HI
    clear HI hall hK hE hR hB
    rw [HE.out]
    go_enter Try.func45, Try.ntmps45
    go_wp2_with fail
    refine HC.out.mono ?_
    rintro e w2 ⟨rfl, b2⟩
    go_wp2
    go_ret
    exact ⟨v, rfl, own_keptG HR.out b2, stepB HB.out b2⟩
  · obtain ⟨i0, hi0, h0, h1⟩ : ∃ i, i < xs.length ∧ (∀ j, j < i → f (xs.getD j noY) = false) ∧ f (xs.getD i noY) = true := by
      have : ∃ j, j < xs.length ∧ f (xs.getD j noY) = true := by
        refine Classical.byContradiction fun hn => hall fun j hj => ?_
        cases hf : f (xs.getD j noY) with
        | false => rfl
        | true => exact absurd ⟨j, hj, hf⟩ hn
      obtain ⟨j, hj, hf⟩ := this
      have hfi : xs.findIdx f < xs.length := by
        rw [List.findIdx_lt_length]
        exact ⟨xs.getD j noY, ey_mem hj, hf⟩
      refine ⟨xs.findIdx f, hfi, fun k hk => ?_, ?_⟩
      · have := List.not_of_lt_findIdx hk
        simpa [show k < xs.length by omega] using this
      · have := List.findIdx_getElem (w := hfi)
        simpa [hfi] using this
    rw [(ixI_hit h0 hi0 h1).1] at HI
    obtain ⟨g, cap, rfl, hcap, hbg, hgw, -, -⟩ := own_place hR (by omega)
    have hmax : cap ≤ maxLen := by
      obtain ⟨_, _, e, _, h, _⟩ := (RdC.of_own hR).formF
      simp only [Value.slice.injEq] at e
      obtain ⟨_, _, rfl⟩ := e
      exact h
    have HD : Hid (Del f xs wb g cap i0 (i0 + 1) (pvs xs) w) := Del.start hi0 h0 h1 hR hB
    obtain ⟨n, hn⟩ : ∃ n : Nat, n = xs.length := ⟨_, rfl⟩
    rw [← hn] at HI hcap hi0 ⊢
    have HN : Hid (n = xs.length) := hn
    have HC : Hid (Calls Try.prog 52 #[.slice (some ⟨g, 0, none⟩) n cap, .func (.func K) #[] caps] w fun e w' => e = .returned (.int .i64 (i0 : Int)) ∧ Below w.heap.size w w') := HI
    have HK : Hid (∀ x ∈ xs, ∀ W, Below wb.heap.size wb W → Calls Try.prog K (#[pV x.g] ++ caps) W fun e w' => e = .returned (.bool (f x)) ∧ Below W.heap.size W w') := hK
    unfold maxLen at hmax
    have hb0 : ((i0 : Int) == -1) = false := beq_eq_false_iff_ne.2 (by omega)
    have hd0 : decide ((i0 : Int) = -1) = false := decide_eq_false (by omega)
    clear HI hall hK hR hB h0 h1 hn hbg hgw
    go_enter Try.func45, Try.ntmps45
    go_wp2_with fail
    refine HC.out.mono ?_
    rintro e w2 ⟨rfl, b2⟩
    have HD2 : Hid (Del f xs wb g cap i0 (i0 + 1) (pvs xs) w2) := HD.out.kept b2
    clear HD HC b2
    go_wp2
    go_loopw [5, 6] (fun iv jv wx => ∃ (i j : Nat) (cs : List Value), i < j ∧ j ≤ n ∧ iv = .int .i64 (i : Int) ∧ jv = .int .i64 (j : Int) ∧ Hid (Del f xs wb g cap i j cs wx)) (fun _ jv _ => n - (intOf jv).toNat)
    case atStart => exact ⟨i0, i0 + 1, pvs xs, by omega, by omega, rfl, by go_num, HD2⟩
    case round =>
      obtain ⟨i, j, cs, hij, hjn, rfl, rfl, HDx⟩ := hrel
      clear HD2
      by_cases hlt : j < n
      · have hd : decide ((j : Int) < (n : Int)) = true := decide_eq_true (by omega)
        have hjI : (j : Int) < (n : Int) := by omega
        have hin : j < xs.length := by rw [← HN.out]; exact hlt
        obtain ⟨hc, -, -⟩ := HDx.out.cells hin
        have HM : Hid (xs.getD j noY ∈ xs) := ey_mem hin
        obtain ⟨x, hx⟩ : ∃ x, x = xs.getD j noY := ⟨_, rfl⟩
        rw [← hx] at hc
        have HX : Hid (x = xs.getD j noY) := hx
        have HM2 : Hid (x ∈ xs) := by show _ ∈ _; rw [hx]; exact HM.out
        clear hx HM
        go_wp2_with fail
        refine (HK.out x HM2.out _ HDx.out.below).mono ?_
        rintro e w3 ⟨rfl, b3⟩
        have HD3 : Hid (Del f xs wb g cap i j cs w3) := HDx.out.kept b3
        obtain ⟨r, hr⟩ : ∃ r : Bool, r = f x := ⟨_, rfl⟩
        rw [← hr]
        have HRv : Hid (r = f x) := hr
        clear hr b3 hc HDx
        cases r with
        | true =>
          have HD4 : Hid (Del f xs wb g cap i (j + 1) cs w3) := HD3.out.skip hin (by rw [← HX.out]; exact HRv.out.symm)
          clear hin
          go_wp2
          go_roundw
          case rel => exact ⟨i, j + 1, cs, by omega, by omega, rfl, by go_num, HD4⟩
          case measure => simp [intOf] <;> omega
        | false =>
          obtain ⟨-, ⟨u, hcu⟩, hfu⟩ := HD3.out.cells hin
          have hk := HD3.out.keep hin (by rw [← HX.out]; exact HRv.out.symm)
          rw [← HX.out] at hk
          have HD4 : Hid (Del f xs wb g cap (i + 1) (j + 1) (cs.set i (pV x.g)) (w3.setCell ⟨g, i, none⟩ (pV x.g))) := hk
          clear hin hk
          go_wp2
          go_roundw
          case rel => exact ⟨i + 1, j + 1, _, by omega, by omega, by go_num, by go_num, HD4⟩
          case measure => simp [intOf] <;> omega
      · have hjn2 : j = n := by omega
        have hd : decide ((j : Int) < (n : Int)) = false := decide_eq_false (by omega)
        have hjI : (n : Int) ≤ (j : Int) := by omega
        have hD := HDx.out
        rw [hjn2, HN.out] at hD
        obtain ⟨hcl, hD2, hD3, hD4⟩ := hD.done
        rw [← HN.out] at hcl hD2 hD4
        have HO : Hid (World.ownsRow (wr.setCells g i (List.replicate (n - i) (.pointer none))) wb.heap.size 66 1 (.slice (some ⟨g, 0, none⟩) i cap) i (pvs (keY f xs))) := hD2
        have HO3 : Hid (i = (keY f xs).length) := hD3
        have HO4 : Hid (Below wb.heap.size wb (wr.setCells g i (List.replicate (n - i) (.pointer none)))) := hD4
        have hci : ¬ cap = i := by omega
        have hin : i ≤ n := by omega
        clear hD hD2 hD3 hD4 HDx hjn2
        go_wp2
        go_ret
        exact ⟨_, rfl, by rw [← HO3.out]; exact HO.out, HO4.out⟩
end Go.Proofs.Ytkljklfejaojaaa
