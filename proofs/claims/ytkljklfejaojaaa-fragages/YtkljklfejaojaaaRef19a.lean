/- Unfinished messages in memory; what is kept of them: contracts of the reference of layer 19, first part. -/
import Derived.Test.YtkljklfejaojaaaFgMath4
import Derived.Test.YtkljklfejaojaaaRowE
import Derived.Test.YtkljklfejaojaaaChecked
import Derived.OwnWalk
import Derived.Deep.QuietTactic
import Derived.BigQuiet
import Derived.WalkSpells
import Derived.RegionTactic
import Derived.BigRegion
namespace Go.Proofs.Ytkljklfejaojaaa
open Go.ChangeShapes Go.WideShapes Go.ChangeAt Go.RowKit
set_option linter.unusedSimpArgs false
set_option linter.unusedVariables false

/-- A text as a value. -/
def sv (l : List UInt8) : Value := .string ⟨l.toArray⟩
/-- An entry's cells. -/
def enD (e : Ent) (v : Value) : List Value := [.string ⟨e.peer.toArray⟩, .int .i64 e.msg, .int .u64 (e.born : Int), v]
def enC : List Ent → List Value → List Value
  | e :: l, v :: vs => enD e v ++ enC l vs
  | _, _ => []
theorem enC_len : ∀ {l : List Ent} {vs : List Value}, vs.length = l.length → (enC l vs).length = l.length * 4
  | [], _, _ => by simp [enC]
  | e :: l, v :: vs, h => by
    have := enC_len (l := l) (vs := vs) (by simpa using h)
    simp only [enC, enD, List.length_append, List.length_cons, List.length_nil, this]
    omega
theorem enC_at : ∀ {l : List Ent} {vs : List Value} {k j : Nat}, vs.length = l.length → k < l.length → j < 4 → (enC l vs)[k * 4 + j]? = (enD (l.getD k noE) (vs.getD k undef))[j]?
  | e :: l, v :: vs, 0, j, h, hk, hj => by
    simp only [enC, List.getD_cons_zero]
    rw [List.getElem?_append_left (by simp [enD]; omega)]
    simp
  | e :: l, v :: vs, k + 1, j, h, hk, hj => by
    simp only [enC, List.getD_cons_succ]
    rw [List.getElem?_append_right (by simp [enD]; omega), show (k + 1) * 4 + j - (enD e v).length = k * 4 + j by simp [enD]; omega]
    exact enC_at (by simpa using h) (by simpa using hk) hj
theorem enC_append : ∀ {l l2 : List Ent} {vs vs2 : List Value}, vs.length = l.length → enC (l ++ l2) (vs ++ vs2) = enC l vs ++ enC l2 vs2
  | [], l2, [], vs2, _ => by simp [enC]
  | e :: l, l2, v :: vs, vs2, h => by
    simp only [List.cons_append, enC, List.append_assoc]
    rw [enC_append (by simpa using h)]
/-- A slice whose elements are these entries. -/
structure EnR (w : World) (v : Value) (l : List Ent) : Prop where
  form : ∃ vs, vs.length = l.length ∧ RdE w v 4 l.length (enC l vs) ∧ ∀ k, k < l.length → RdC w (vs.getD k undef) ((l.getD k noE).parts.map sv)
theorem EnR.kept {w w' : World} {v : Value} {l : List Ent} (h : EnR w v l) (hb : Below w.heap.size w w') : EnR w' v l := by
  obtain ⟨vs, h1, h2, h3⟩ := h.form
  exact ⟨vs, h1, h2.kept hb, fun k hk => (h3 k hk).kept hb⟩
theorem EnR.len {w : World} {v : Value} {l : List Ent} (h : EnR w v l) : ∃ a c, v = .slice a l.length c ∧ l.length ≤ c ∧ c ≤ maxLen := by
  obtain ⟨vs, h1, h2, h3⟩ := h.form
  exact h2.len
theorem range_four {w : World} {b o : Nat} {t u v x : Value} (h0 : w.cell? ⟨b, o, none⟩ = some t) (h1 : w.cell? ⟨b, o + 1, none⟩ = some u) (h2 : w.cell? ⟨b, o + 2, none⟩ = some v) (h3 : w.cell? ⟨b, o + 3, none⟩ = some x) : w.rangeAt b o [t, u, v, x] := by
  intro j y hj
  match j, hj with
  | 0, hj => simp at hj; subst hj; exact h0
  | 1, hj => simp at hj; subst hj; exact h1
  | 2, hj => simp at hj; subst hj; exact h2
  | 3, hj => simp at hj; subst hj; exact h3
theorem RdC.form {w : World} {v : Value} {xs : List Value} (h : RdC w v xs) : ∃ a c, v = .slice a xs.length c ∧ xs.length ≤ c ∧ c ≤ maxLen := by
  obtain ⟨a, c, e, h1, h2, -⟩ := h
  exact ⟨a, c, e, h1, h2⟩
theorem EnR.at {w : World} {a : Option Addr} {m c : Nat} {l : List Ent} (h : EnR w (.slice a m c) l) {k : Nat} (hk : k < l.length) :
    ∃ b off a' c', a = some ⟨b, off, none⟩ ∧ w.cell? ⟨b, off + k * 4, none⟩ = some (.string ⟨(l.getD k noE).peer.toArray⟩) ∧ w.cell? ⟨b, off + k * 4 + 1, none⟩ = some (.int .i64 (l.getD k noE).msg) ∧ w.cell? ⟨b, off + k * 4 + 2, none⟩ = some (.int .u64 ((l.getD k noE).born : Int)) ∧ w.cell? ⟨b, off + k * 4 + 3, none⟩ = some (.slice a' (l.getD k noE).parts.length c') ∧ RdC w (.slice a' (l.getD k noE).parts.length c') ((l.getD k noE).parts.map sv) := by
  obtain ⟨vs, h1, h2, h3⟩ := h.form
  have hl := enC_len h1
  have hp := h3 k hk
  obtain ⟨a', c', e', -, -⟩ := hp.form
  rw [List.length_map] at e'
  obtain ⟨b, off, rfl, -⟩ := h2.cellAt (i := k * 4) (by rw [hl]; omega)
  have hc : ∀ j, j < 4 → w.cell? ⟨b, off + k * 4 + j, none⟩ = (enD (l.getD k noE) (vs.getD k undef))[j]? := fun j hj => by
    obtain ⟨b2, off2, e2, h⟩ := h2.cellAt (i := k * 4 + j) (by rw [hl]; omega)
    simp only [Option.some.injEq, Addr.mk.injEq, and_true] at e2
    obtain ⟨rfl, rfl⟩ := e2
    rw [← enC_at h1 hk hj, Nat.add_assoc, h]
    simp [hl, show k * 4 + j < l.length * 4 by omega]
  have q0 := hc 0 (by decide)
  have q1 := hc 1 (by decide)
  have q2 := hc 2 (by decide)
  have q3 := hc 3 (by decide)
  simp only [enD, List.getElem?_cons_zero, List.getElem?_cons_succ, Nat.add_zero] at q0 q1 q2 q3
  rw [e'] at q3 hp
  exact ⟨b, off, a', c', rfl, q0, q1, q2, q3, hp⟩
theorem infoEnt (e : Ent) (v : Value) : (Try.prog.info? 71).map (·.size) = some (enD e v).length := by
  show _ = some 4
  kernel_rfl

set_option maxRecDepth 100000 in
set_option maxHeartbeats 2000000 in
theorem size19_any (e : Ent) (hs : EntS e) (A : Array Value) (v : Value) (hA : A = (enD e v).toArray) (w : World) (hr : RdC w v (e.parts.map sv)) :
    Calls Try.prog 43 #[.agg A] w fun r w' => r = .returned (.int .i64 (szE e : Int)) ∧ Below w.heap.size w w' := by
  subst hA
  obtain ⟨a, c, rfl, h2, h3⟩ := hr.form
  rw [List.length_map] at h2 hr ⊢
  unfold maxLen at h3
  obtain ⟨n, hn⟩ : ∃ n : Nat, n = e.parts.length := ⟨_, rfl⟩
  have HN : Hid (n = e.parts.length) := hn
  have hn64 : n ≤ 64 := by rw [hn]; exact hs.n
  have HS : Hid (EntS e) := hs
  rw [← hn] at h2 hr ⊢
  have HR : Hid (RdC w (.slice a n c) (e.parts.map sv)) := hr
  clear hr hs hn
  go_enter Try.func43, Try.ntmps43
  go_wp2_with (refine wpList_box_blk rfl 71 _ rfl (enD e (.slice a n c)) (by rfl) ?_)
  intro w1 r1 b1 s1
  have c3 : w1.cell? ⟨w.heap.size, 3, none⟩ = some (.slice a n c) := r1.cell 3
  have HB1 : Hid (Below w.heap.size w w1) := b1
  clear r1 b1 s1
  go_wp2
  go_loop [3, 4] (fun xv iv => ∃ i x : Nat, i ≤ n ∧ iv = .int .i64 (i : Int) ∧ xv = .int .i64 (x : Int) ∧ x ≤ i * 1024 ∧ Hid (x = ((e.parts.take i).map List.length).sum)) (fun _ iv => n - (intOf iv).toNat)
  case atStart => exact ⟨0, 0, by omega, rfl, rfl, by omega, (by simp : (0 : Nat) = ((e.parts.take 0).map List.length).sum)⟩
  case round =>
    obtain ⟨i, x, hi, rfl, rfl, hx, HX⟩ := hrel
    by_cases hlt : i < n
    · have hd : decide ((i : Int) < (n : Int)) = true := decide_eq_true (by omega)
      have hiI : (i : Int) < (n : Int) := by omega
      obtain ⟨b, off, cap, ev, -, -, hc0⟩ := (HR.out.kept HB1.out).cellAt (i := i) (by rw [List.length_map, ← HN.out]; exact hlt)
      simp only [Value.slice.injEq] at ev
      obtain ⟨rfl, -, -⟩ := ev
      have hil : i < e.parts.length := by rw [← HN.out]; exact hlt
      obtain ⟨y, hy⟩ : ∃ y, y = e.parts.getD i [] := ⟨_, rfl⟩
      have hyl : y.length ≤ 1024 := HS.out.t y (by rw [hy]; simp [hil])
      have hc : w1.cell? ⟨b, off + i, none⟩ = some (.string ⟨y.toArray⟩) := by rw [hc0, hy]; simp [sv, hil]
      have hz : ByteArray.size ⟨y.toArray⟩ = y.length := rfl
      have HX2 : Hid (x + y.length = ((e.parts.take (i + 1)).map List.length).sum) := by show _ = _; rw [sum_take _ [] _ _ hil, ← HX.out, ← hy]
      generalize hYb : (⟨y.toArray⟩ : ByteArray) = Y at hc hz
      generalize y.length = m at hz hyl HX2
      have e1 : IntKind.i64.wrap ((x : Int) + (m : Int)) = ((x + m : Nat) : Int) := by rw [IntWalk.i64_in _ (by omega)]; omega
      generalize x + m = z at e1 HX2
      have hzb : z ≤ (i + 1) * 1024 := by
        have := HX2.out
        have h4 := sum_leE (l := (e.parts.take (i + 1)).map List.length) (m := 1024) fun q hq => by
          obtain ⟨u, hu, rfl⟩ := List.mem_map.1 hq
          exact HS.out.t u (List.mem_of_mem_take hu)
        rw [List.length_map, List.length_take, Nat.min_eq_left (by omega)] at h4
        omega
      clear hy hYb hil hc0
      go_wp2
      go_round
      case rel => exact ⟨i + 1, z, by omega, by go_num, rfl, hzb, HX2⟩
      case measure => simp [intOf] <;> omega
    · have hd : decide ((i : Int) < (n : Int)) = false := decide_eq_false (by omega)
      have HF : Hid (szE e = x) := by
        show _ = _
        rw [HX.out, List.take_of_length_le (by rw [← HN.out]; omega)]
        rfl
      go_wp2
      go_ret
      exact ⟨by rw [HF.out]; rfl, HB1.out⟩
end Go.Proofs.Ytkljklfejaojaaa
