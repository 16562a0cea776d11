/- A variable of a function's own that a closure writes: a row of bytes that grows behind it; what the program's own filling up, lengths and joining answer: contracts of package aead, first part. -/
import Derived.Test.YtliiofjcghdjoaaDoorRef09a
import Derived.Test.YtliiofjcghdjoaaDoorWords
import Derived.Test.YtliiofjcghdjoaaDoorP08e
import Derived.Test.YtliiofjcghdjoaaDoorC07d
namespace Go.Proofs.YtliiofjcghdjoaaDoor
open Go.ChangeShapes Go.WideShapes Go.ChangeAt Go.RowKit
set_option linter.unusedSimpArgs false
set_option linter.unusedVariables false

/-- The variable in block g holds a slice of its own, made since w0, which reads as l. -/
structure Cap (ty e : TypeId) (w0 : World) (g : Nat) (v : Value) (l : List UInt8) (w : World) : Prop where
  var : BlkAt g ty [v] w
  row : w.ownsRow w0.heap.size e 1 v l.length (l.map bv)
  ge : w0.heap.size ≤ g
  below : Below w0.heap.size w0 w
theorem Cap.apart {ty e : TypeId} {g : Nat} {v u : Value} {l : List UInt8} {base : Nat} {w : World} (hv : BlkAt g ty [u] w) (hr : w.ownsRow base e 1 v l.length (l.map bv)) (hne : ty ≠ e) : v.ownBlock ≠ some g := by
  rcases hr.2 with ⟨rfl, h0⟩ | ⟨g', cap, cur, rfl, hb, hg, hn, hm, hs, ht⟩
  · simp [Value.ownBlock]
  · intro h
    have h1 : g' = g := by simpa [Value.ownBlock] using h
    subst h1
    unfold BlkAt at hv
    rw [hg] at hv
    simp at hv
    exact hne hv.2.symm
theorem Cap.rd {ty e : TypeId} {w0 w : World} {g : Nat} {v : Value} {l : List UInt8} (h : Cap ty e w0 g v l w) : Rd w v l := Rd.of_row h.row
theorem Cap.kept {ty e : TypeId} {w0 w w' : World} {g : Nat} {v : Value} {l : List UInt8} (h : Cap ty e w0 g v l w) (hb : Below w.heap.size w w') : Cap ty e w0 g v l w' :=
  ⟨h.var.kept hb, ownsRow_below h.row hb, h.ge, stepB h.below hb⟩
theorem Cap.cell {ty e : TypeId} {w0 w : World} {g : Nat} {v : Value} {l : List UInt8} (h : Cap ty e w0 g v l w) : w.cell? ⟨g, 0, none⟩ = some v := by rw [h.var.cell]; rfl
theorem Cap.free {ty e : TypeId} {w0 w : World} {g : Nat} {v : Value} {l : List UInt8} (h : Cap ty e w0 g v l w) : w.frozen? ⟨g, 0, none⟩ = false := h.var.free 0
theorem Cap.grow {ty e : TypeId} {w0 w w1 : World} {g : Nat} {v v' : Value} {l l' : List UInt8} (h : Cap ty e w0 g v l w) (hne : ty ≠ e) (h1 : w1.ownsRow w0.heap.size e 1 v' l'.length (l'.map bv)) (hg : w.grownBy w1 v.ownBlock) :
    w1.cell? ⟨g, 0, none⟩ = some v ∧ w1.frozen? ⟨g, 0, none⟩ = false ∧ Cap ty e w0 g v' l' (w1.setCell ⟨g, 0, none⟩ v') := by
  have hb1 : BlkAt g ty [v] w1 := h.var.chg (Chg.of_grown hg) fun e => Cap.apart h.var h.row hne e.symm
  refine ⟨by rw [hb1.cell]; rfl, hb1.free 0, hb1.set 0 v', own_chg h1 (Chg.of_wrote (Wrote.set g 0 w1 v')) fun g' hg' e => ?_, h.ge, ?_⟩
  · subst e
    exact Cap.apart hb1 h1 hne hg'
  · have hb2 : Below w0.heap.size w0 w1 := h.below.grown hg h.below.size fun k hk => (h.row.lt k hk).1
    exact (Wrote.set g 0 w1 v').below _ _ h.ge hb2
/-- How long the variable's slice is. -/
def lenC (w : World) (g : Nat) : Nat := match w.cell? ⟨g, 0, none⟩ with
  | some v => lenOf v
  | none => 0
theorem Cap.len {ty e : TypeId} {w0 w : World} {g : Nat} {v : Value} {l : List UInt8} (h : Cap ty e w0 g v l w) : lenC w g = l.length := by
  unfold lenC
  rw [h.cell]
  obtain ⟨a, c, rfl, -⟩ := h.rd
  rfl

set_option maxRecDepth 100000 in
set_option maxHeartbeats 1000000 in
theorem cfill_any (vb v : Value) (b l : List UInt8) (g : Nat) (w0 w : World) (hl : l.length + b.length ≤ 100000000000) (hC : Cap 40 5 w0 g v l w) (hb : Rd w vb b) :
    Calls Tryd.prog 84 #[vb, .pointer (some ⟨g, 0, none⟩)] w fun e w' => e = .returned (.tuple #[]) ∧ ∃ v', Cap 40 5 w0 g v' (flL (l ++ b)) w' := by
  have HL : Hid (l.length + b.length ≤ 100000000000) := hl
  have hc0 := hC.cell
  clear hl
  go_enter Tryd.func84, Tryd.ntmps84
  go_wp2_with (at_builtin; go_must (refine wpList_append_base rfl _ _ 40 rfl 5 Tryd.underlying40 infoU8 _ _ rfl hC.row hC.below.size _ _ rfl hb (by have := HL.out; omega) ?_))
  intro v1 w1 h1 hg1 _
  obtain ⟨c1, f1, hC1⟩ := hC.grow (l' := l ++ b) (by decide) (by simpa using h1) hg1
  have HT : Hid ((l ++ b).length ≤ 100000000000) := by show _ ≤ _; rw [List.length_append]; exact HL.out
  obtain ⟨t, ht⟩ : ∃ t : List UInt8, t = l ++ b := ⟨_, rfl⟩
  rw [← ht] at hC1 HT
  have HE : Hid (t = l ++ b) := ht
  clear ht
  clear h1 hg1 hC hc0 hb HL
  obtain ⟨a1, k1, rfl, -⟩ := id hC1.rd
  go_wp2
  go_loopw [] (fun wx => ∃ (j : Nat) (v : Value), j ≤ pd16 t.length ∧ Cap 40 5 w0 g v (flJ t j) wx) (fun wx => pd16 t.length + t.length - lenC wx g)
  case atStart => exact ⟨0, _, Nat.zero_le _, by simpa [flJ] using hC1⟩
  case round =>
    obtain ⟨j, v2, hj, hC2⟩ := hrel
    clear hC1 c1 f1
    have c2 := hC2.cell
    obtain ⟨a, c, rfl, hc, hm, -, -⟩ := id hC2.rd
    unfold maxLen at hm
    have hlen : (flJ t j).length = t.length + j := flJ_length t j
    have HS : Hid (t.length + j + 1 ≤ 140737488355328) := by show _ ≤ _; have := HT.out; have := pd16_lt t.length; omega
    have HLC : Hid (lenC wr g = t.length + j) := by show _ = _; rw [hC2.len, hlen]
    obtain ⟨m, hm2⟩ : ∃ m : Nat, m = t.length + j := ⟨_, rfl⟩
    by_cases hlt : j < pd16 t.length
    · have hd := pd16_on t.length j hlt
      rw [← hm2] at hd
      rw [hlen, ← hm2] at hC2 c2
      have HN : Hid (Cap 40 5 w0 g (.slice a m c) (flJ t j) wr) := hC2
      have HM : Hid _ := hm2
      clear hC2 hm hlen hm2 hc
      have hCx : ∀ o : Obj, Cap 40 5 w0 g (.slice a m c) (flJ t j) (wr.alloc o) := fun o => HN.out.kept (growB o)
      have hcx : ∀ o : Obj, (wr.alloc o).cell? ⟨g, 0, none⟩ = some (.slice a m c) := fun o => (hCx o).cell
      go_wp2_with (at_builtin; go_must (refine wpList_append_base rfl _ _ 40 rfl 5 Tryd.underlying40 infoU8 _ _ rfl (hCx _).row (hCx _).below.size _ _ rfl (Rd.lit1 (0 : UInt8) rfl) (by rw [flJ_length]; exact HS.out) ?_))
      intro v3 w3 h3 hg3 _
      obtain ⟨c3, f3, hC3⟩ := (hCx _).grow (l' := flJ t j ++ [(0 : UInt8)]) (by decide) (by simpa using h3) hg3
      rw [flJ_next] at hC3
      clear h3 hg3 hcx hCx c2
      obtain ⟨a3, k3, rfl, -⟩ := id hC3.rd
      go_wp2
      go_roundw
      case rel => exact ⟨j + 1, _, by omega, hC3⟩
      case measure => have := HM.out; have := HLC.out; rw [hC3.len, flJ_length]; omega
    · have hje : j = pd16 t.length := by omega
      have hd := pd16_off t.length
      rw [← hje, ← hm2] at hd
      rw [hlen, ← hm2] at hC2 c2
      have HN : Hid (Cap 40 5 w0 g (.slice a m c) (flJ t j) wr) := hC2
      have HF : Hid (flL t = flJ t j) := by show _ = _; rw [hje]; rfl
      clear hC2 hm hlen
      go_wp2
      go_end0
      exact ⟨rfl, _, by rw [← HE.out, HF.out]; exact HN.out⟩

set_option maxHeartbeats 1000000 in
theorem alength_any (vb : Value) (b : List UInt8) (w : World) (hl : b.length ≤ 100000000000) (hb : Rd w vb b) :
    Calls Tryd.prog 85 #[vb] w fun e w' => ∃ r, e = .returned r ∧ New 5 w r (st8 b.length) w' := by
  obtain ⟨ab, cb, rfl, hcb, hmb, -, -⟩ := id hb
  have e1 : IntKind.u64.wrap (b.length : Int) = (b.length : Int) := by rw [IntKind.wrap_u64]; omega
  go_enter Tryd.func85, Tryd.ntmps85
  go_wp2_with fail
  refine (store_k b.length 8 8 (by decide) (by omega) _).mono ?_
  rintro e w1 ⟨v1, rfl, hN1⟩
  go_wp2
  go_ret
  exact ⟨_, rfl, hN1⟩
theorem afit_any (vk vn : Value) (k n : List UInt8) (w : World) (hk : Rd w vk k) (hn : Rd w vn n) :
    Calls Tryd.prog 61 #[vk, vn] w fun e w' => e = .returned (.bool (decide (k.length = 32 ∧ n.length = 12))) ∧ w' = w := by
  obtain ⟨ak, ck, rfl, hck, -, -⟩ := hk
  obtain ⟨an, cn, rfl, hcn, -, -⟩ := hn
  by_cases h : k.length = 32
  · have HE : Hid (((n.length : Int) == 12) = decide (k.length = 32 ∧ n.length = 12)) := by
      show _ = _
      by_cases h2 : n.length = 12 <;> simp [h, h2] <;> omega
    have hd : ((k.length : Int) == 32) = true := by simp [h]
    go_enter Tryd.func61, Tryd.ntmps61
    go_wp2
    go_ret
    exact ⟨congrArg (fun b => Ending.returned (.bool b)) HE.out, rfl⟩
  · have hd : ((k.length : Int) == 32) = false := by simp; omega
    have HE : Hid (false = decide (k.length = 32 ∧ n.length = 12)) := by
      show _ = _
      simp [h]
    go_enter Tryd.func61, Tryd.ntmps61
    go_wp2
    go_ret
    exact ⟨congrArg (fun b => Ending.returned (.bool b)) HE.out, rfl⟩
end Go.Proofs.YtliiofjcghdjoaaDoor
