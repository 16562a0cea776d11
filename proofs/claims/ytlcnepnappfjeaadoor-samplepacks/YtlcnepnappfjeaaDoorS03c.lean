/- What the functions lastBlock and Absorb of package sponge answer. -/
import Derived.Test.YtlcnepnappfjeaaDoorS03b
import Derived.Test.YtlcnepnappfjeaaDoorBase
namespace Go.Proofs.YtlcnepnappfjeaaDoor
open Go.ChangeShapes Go.WideShapes Go.ChangeAt Go.RowKit
set_option linter.unusedSimpArgs false
set_option linter.unusedVariables false

/-- The last block. -/
def lbF (r : Nat) (s : UInt8) (l : List UInt8) (k : Nat) : UInt8 := (if k < l.length then l.getD k 0 else if k = l.length then s else 0) ^^^ (if k = r - 1 then 128 else 0)
def lbL (r : Nat) (s : UInt8) (l : List UInt8) : List UInt8 := (List.range r).map (lbF r s l)
theorem lbL_length (r : Nat) (s : UInt8) (l : List UInt8) : (lbL r s l).length = r := by simp [lbL]
theorem lb_step (r : Nat) (s : UInt8) (l : List UInt8) (hl : l.length < r) (k : Nat) (hk : k < r) : ((l ++ List.replicate (r - l.length) (0 : UInt8)).set l.length s).getD k 0 = if k < l.length then l.getD k 0 else if k = l.length then s else 0 := by
  rw [List.getD_eq_getElem?_getD, List.getElem?_set]
  by_cases h : k < l.length
  · rw [if_pos h, if_neg (by omega), List.getElem?_append_left h, List.getD_eq_getElem?_getD]
  · rw [if_neg h]
    by_cases h2 : k = l.length
    · subst h2
      rw [if_pos rfl, if_pos (by simp; omega), if_pos rfl]
      rfl
    · rw [if_neg h2, if_neg (Ne.symm h2), List.getElem?_append_right (by omega), List.getElem?_replicate, if_pos (by omega)]
      rfl
theorem lb_done (r : Nat) (s : UInt8) (l : List UInt8) (hl : l.length < r) :
    ((l ++ List.replicate (r - l.length) (0 : UInt8)).set l.length s).set (r - 1) (((l ++ List.replicate (r - l.length) (0 : UInt8)).set l.length s).getD (r - 1) 0 ^^^ 128) = lbL r s l := by
  have hlen : ((l ++ List.replicate (r - l.length) (0 : UInt8)).set l.length s).length = r := by simp; omega
  refine List.ext_getElem (by rw [List.length_set, hlen, lbL_length]) fun k h1 h2 => ?_
  have hk : k < r := by rw [lbL_length] at h2; exact h2
  have e1 := lb_step r s l hl k hk
  have e3 : (lbL r s l)[k] = lbF r s l k := by simp [lbL]
  rw [e3, List.getElem_set]
  unfold lbF
  by_cases h : r - 1 = k
  · subst h
    rw [if_pos rfl, if_pos rfl, e1]
  · have e2 : ((l ++ List.replicate (r - l.length) (0 : UInt8)).set l.length s)[k]'(by rw [hlen]; exact hk) = ((l ++ List.replicate (r - l.length) (0 : UInt8)).set l.length s).getD k 0 := by
      rw [List.getD_eq_getElem?_getD, List.getElem?_eq_getElem (by rw [hlen]; exact hk)]
      rfl
    rw [if_neg h, if_neg (Ne.symm h), ← e1, UInt8.xor_zero]
    exact e2

set_option maxHeartbeats 1000000 in
theorem lastBlock_any (r : Nat) (h2 : r ≤ 200) (s : UInt8) (S : Int) (hS : S = (s.toNat : Int)) (vb : Value) (l : List UInt8) (hl : l.length < r) (w : World) (hr : Rd w vb l) :
    Calls Tryd.prog 66 #[.int .i64 (r : Int), .int .u8 S, vb] w fun e w' => ∃ v, e = .returned v ∧ New 5 w v (lbL r s l) w' := by
  subst hS
  obtain ⟨i, hi, hz0, hz1, hz2⟩ := info_parts info5
  have hsz : (Tryd.prog.info? 5).map (·.size) = some 1 := by kernel_rfl
  have HD : Hid _ := lb_done r s l hl
  obtain ⟨a, cap, rfl, h3, h4, h5, -⟩ := id hr
  go_enter Tryd.func66, Tryd.ntmps66
  go_wp2_with (at_make; go_must (refine wpList_make_full _ rfl _ _ 22 rfl w.heap.size 5 i _ 1 Tryd.underlying22 hi hz0 hz1 _ _ _ _ r rfl rfl (by omega) (by omega) (by rw [hz2]; omega) (by unfold maxLen; omega) (Nat.le_refl _) ?_))
  intro w1 hown hgr
  have hN := New.made hown hgr
  have hr1 := hr.kept hN.2
  clear hown hgr hr
  go_wp2_with (refine wpList_copy_new (w := w) rfl _ _ 22 rfl 5 Tryd.underlying22 hsz _ _ rfl hN _ _ rfl hr1 (by simp; omega) (by intro h; simp at h; omega) ?_)
  intro w2 hN2
  clear hN hr1
  have hlen2 : r = (l ++ List.replicate (r - l.length) (0 : UInt8)).length := by simp; omega
  obtain ⟨g, eg, hg, -, hc, hfz, hset⟩ := own_at hlen2 hN2.1 (j := l.length) hl
  simp only [Option.some.injEq, Addr.mk.injEq, and_true] at eg
  subst eg
  have hN3 : New 5 w (.slice (some ⟨w.heap.size, 0, none⟩) r r) ((l ++ List.replicate (r - l.length) (0 : UInt8)).set l.length s) (w2.setCell ⟨w.heap.size, l.length, none⟩ (.int .u8 (s.toNat : Int))) := ⟨hset s _ rfl, hN2.2.setCell (Nat.le_refl _) _⟩
  have hlI : (l.length : Int) < r := by omega
  obtain ⟨p, hp⟩ : ∃ p : Nat, p = r - 1 := ⟨_, rfl⟩
  have wp1 : IntKind.i64.wrap ((r : Int) - 1) = (p : Int) := by rw [IntWalk.i64_in _ (by omega)]; omega
  have hpI : (p : Int) < r := by omega
  rw [← hp] at HD
  have hlen3 : r = ((l ++ List.replicate (r - l.length) (0 : UInt8)).set l.length s).length := by rw [List.length_set]; exact hlen2
  obtain ⟨g, eg, hg3, -, hc3, hfz3, hset3⟩ := own_at hlen3 hN3.1 (j := p) (by omega)
  simp only [Option.some.injEq, Addr.mk.injEq, and_true] at eg
  subst eg
  have hN4 := hset3 _ _ (byte_xor (((l ++ List.replicate (r - l.length) (0 : UInt8)).set l.length s).getD p 0) 128)
  rw [HD.out] at hN4
  have hb4 := hN3.2.setCell (p := ⟨w.heap.size, p, none⟩) (Nat.le_refl _) (.int .u8 (bits .xor .u8 (((((l ++ List.replicate (r - l.length) (0 : UInt8)).set l.length s).getD p 0).toNat : Nat) : Int) (((128 : UInt8).toNat : Nat) : Int)))
  generalize ((l ++ List.replicate (r - l.length) (0 : UInt8)).set l.length s).getD p 0 = x at hc3 hN4 hb4
  have HN : Hid (New 5 w (.slice (some ⟨w.heap.size, 0, none⟩) r r) (lbL r s l) ((w2.setCell ⟨w.heap.size, l.length, none⟩ (.int .u8 (s.toNat : Int))).setCell ⟨w.heap.size, p, none⟩ (.int .u8 (bits .xor .u8 ((x.toNat : Nat) : Int) (((128 : UInt8).toNat : Nat) : Int))))) := ⟨hN4, hb4⟩
  clear HD hset hset3 hN2 hN3 hN4 hb4 hlen2 hlen3 hp
  go_wp2
  go_ret
  exact ⟨_, rfl, HN.out⟩

/-- Absorb on its way: its result's block, its state's, the tables, and all that was there before. -/
structure AI (w : World) (F : Nat → Nat) (wr : World) : Prop where
  a : RowAt .u64 66 w.heap.size 25 (stL fun _ => 0) wr
  r : RowAt .u64 66 (w.heap.size + 1) 25 (stL F) wr
  b : Below w.heap.size w wr
  t : Tabs wr
  two : 1 < w.heap.size
theorem AI.drew {w wr : World} {F : Nat → Nat} (h : AI w F wr) : AI w F wr.drew := ⟨h.a.drew, h.r.drew, h.b.drew, h.t.kept (Below.refl _ _).drew, h.two⟩
theorem AI.kept {w wr w2 : World} {F : Nat → Nat} (h : AI w F wr) (hb : Below wr.heap.size wr w2) : AI w F w2 := ⟨h.a.kept hb, h.r.kept hb, stepB h.b hb, h.t.kept hb, h.two⟩
theorem AI.whole {w wr w2 : World} {F G : Nat → Nat} (h : AI w F wr) (hr : RowAt .u64 66 (w.heap.size + 1) 25 (stL G) w2) (hw : Wrote (w.heap.size + 1) wr w2) : AI w G w2 :=
  ⟨h.a.wrote hw (by omega), hr, hw.below _ _ (by omega) h.b, h.t.wrote hw (by have := h.two; omega), h.two⟩

/-- What is left of a row of bytes behind its first ones. -/
theorem Rd.rest {w : World} {b off n cap : Nat} {l : List UInt8} (h : Rd w (.slice (some ⟨b, off, none⟩) n cap) l) (r : Nat) (hr : r ≤ n) :
    Rd w (.slice (if cap = r then some ⟨b, off, none⟩ else some ⟨b, off + r, none⟩) (n - r) (cap - r)) (l.drop r) := by
  have hn : n = l.length := by
    obtain ⟨a, c, e, _⟩ := id h
    simp only [Value.slice.injEq] at e
    exact e.2.1
  by_cases hc : cap = r
  · rw [if_pos hc]
    have hcap : n ≤ cap := by
      obtain ⟨a, c, e, h2, _⟩ := id h
      simp only [Value.slice.injEq] at e
      omega
    have h0 : l.drop r = [] := List.drop_eq_nil_of_le (by omega)
    rw [h0, show n - r = 0 by omega, hc, Nat.sub_self]
    exact ⟨_, 0, rfl, by simp, by simp, fun _ => rfl, .inl rfl⟩
  · rw [if_neg hc]
    have := h.sub r n hr (Nat.le_refl _)
    rwa [List.take_of_length_le (by rw [List.length_drop]; omega)] at this

theorem absorb_zero (R S : Int) (h : ¬ (1 ≤ R ∧ R ≤ 200)) (vb : Value) (w : World) :
    Calls Tryd.prog 61 #[.int .i64 R, .int .u8 S, vb] w fun e w' => e = .returned (arrV fun _ => 0) ∧ Below w.heap.size w w' := by
  have r0 : RowAt .u64 66 w.heap.size 25 (stL fun _ => 0) (w.alloc (.cells #[Value.int .u64 0, .int .u64 0, .int .u64 0, .int .u64 0, .int .u64 0, .int .u64 0, .int .u64 0, .int .u64 0, .int .u64 0, .int .u64 0, .int .u64 0, .int .u64 0, .int .u64 0, .int .u64 0, .int .u64 0, .int .u64 0, .int .u64 0, .int .u64 0, .int .u64 0, .int .u64 0, .int .u64 0, .int .u64 0, .int .u64 0, .int .u64 0, .int .u64 0] 66)) := RowAt.fresh (stL fun _ => 0) zeros25 rfl (stL_length _).symm (stL_ne _) max25
  have r1 : RowAt .u64 66 (w.heap.size + 1) 25 (stL fun _ => 0) ((w.alloc (.cells #[Value.int .u64 0, .int .u64 0, .int .u64 0, .int .u64 0, .int .u64 0, .int .u64 0, .int .u64 0, .int .u64 0, .int .u64 0, .int .u64 0, .int .u64 0, .int .u64 0, .int .u64 0, .int .u64 0, .int .u64 0, .int .u64 0, .int .u64 0, .int .u64 0, .int .u64 0, .int .u64 0, .int .u64 0, .int .u64 0, .int .u64 0, .int .u64 0, .int .u64 0] 66)).alloc (.cells #[Value.int .u64 0, .int .u64 0, .int .u64 0, .int .u64 0, .int .u64 0, .int .u64 0, .int .u64 0, .int .u64 0, .int .u64 0, .int .u64 0, .int .u64 0, .int .u64 0, .int .u64 0, .int .u64 0, .int .u64 0, .int .u64 0, .int .u64 0, .int .u64 0, .int .u64 0, .int .u64 0, .int .u64 0, .int .u64 0, .int .u64 0, .int .u64 0, .int .u64 0] 66)) := RowAt.fresh (stL fun _ => 0) zeros25 (by simp) (stL_length _).symm (stL_ne _) max25
  have hb := stepB (growB (w := w) (.cells #[Value.int .u64 0, .int .u64 0, .int .u64 0, .int .u64 0, .int .u64 0, .int .u64 0, .int .u64 0, .int .u64 0, .int .u64 0, .int .u64 0, .int .u64 0, .int .u64 0, .int .u64 0, .int .u64 0, .int .u64 0, .int .u64 0, .int .u64 0, .int .u64 0, .int .u64 0, .int .u64 0, .int .u64 0, .int .u64 0, .int .u64 0, .int .u64 0, .int .u64 0] 66)) (growB (.cells #[Value.int .u64 0, .int .u64 0, .int .u64 0, .int .u64 0, .int .u64 0, .int .u64 0, .int .u64 0, .int .u64 0, .int .u64 0, .int .u64 0, .int .u64 0, .int .u64 0, .int .u64 0, .int .u64 0, .int .u64 0, .int .u64 0, .int .u64 0, .int .u64 0, .int .u64 0, .int .u64 0, .int .u64 0, .int .u64 0, .int .u64 0, .int .u64 0, .int .u64 0] 66))
  have r2 := r0.kept (growB (.cells #[Value.int .u64 0, .int .u64 0, .int .u64 0, .int .u64 0, .int .u64 0, .int .u64 0, .int .u64 0, .int .u64 0, .int .u64 0, .int .u64 0, .int .u64 0, .int .u64 0, .int .u64 0, .int .u64 0, .int .u64 0, .int .u64 0, .int .u64 0, .int .u64 0, .int .u64 0, .int .u64 0, .int .u64 0, .int .u64 0, .int .u64 0, .int .u64 0, .int .u64 0] 66))
  have h' : (R < 1 ∧ decide (R < 1) = true) ∨ (200 < R ∧ decide (R < 1) = false ∧ decide (200 < R) = true) := by
    by_cases h1 : R < 1
    · exact .inl ⟨h1, decide_eq_true h1⟩
    · exact .inr ⟨by omega, decide_eq_false h1, decide_eq_true (by omega)⟩
  rcases h' with ⟨h1, d1⟩ | ⟨h1, d0, d1⟩
  all_goals
    go_enter Tryd.func61, Tryd.ntmps61
    go_wp2_with (first | refine wpList_load_row rfl 66 _ rfl rfl r1 _ Tryd.underlying66 rfl (arrInfo _) ?_ | (refine wpList_store_row rfl 66 _ _ rfl (stL fun _ => 0) rfl rfl r2 (by simp [stL_length]) (arrInfo _) ?_; intro w3 r3 hw))
    refine bodyPost_row (p := 6) (ty := 66) rfl rfl rfl r3 Tryd.underlying66 rfl (arrInfo _) ?_
    exact ⟨rfl, hw.below _ _ (Nat.le_refl _) hb⟩
end Go.Proofs.YtlcnepnappfjeaaDoor
