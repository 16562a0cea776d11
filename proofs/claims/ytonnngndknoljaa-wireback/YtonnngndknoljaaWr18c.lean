/- Bytes that are taken off one after the other: contracts of package wire, third part. -/
import Derived.Test.YtonnngndknoljaaWr18b
import Derived.Test.YtonnngndknoljaaOwnG
import Derived.Test.YtonnngndknoljaaCut
namespace Go.Proofs.Ytonnngndknoljaa
open Go.ChangeShapes Go.WideShapes Go.ChangeAt Go.RowKit
set_option linter.unusedSimpArgs false
set_option linter.unusedVariables false

/-- An operation that touches no memory. -/
theorem wpList_val18 {P : Program} {ops : Array Oper} {rest : List Oper} {op : Oper} {a : Act} {w : World} {Q : Exit → Act → World → Prop} (hgd : op.guard = none) {v : Value} (hy : (execOp a.eval op).run P w = .ok (.value v) w)
    (h : wpList P ops Q rest (a.put op.dst v) w) : wpList P ops Q (op :: rest) a w := by
  refine wpList_plain hgd fun K hK => ?_
  unfold Oper.wp
  rw [hy]
  exact hK _ _ h
theorem RdL.one18 {w : World} {e : TypeId} {v1 : Value} {l1 : List UInt8} {b : Nat} (hb : b = w.heap.size) (h1 : Rd w v1 l1) : RdL (w.alloc (.cells #[v1] e)) (.slice (some ⟨b, 0, none⟩) 1 1) [v1] [l1] := by
  subst hb
  refine RdL.lit [v1] [l1] rfl rfl rfl (by unfold maxLen; simp) rfl fun i hi => ?_
  match i, hi with
  | 0, _ => exact h1
/-- What is left of bytes lies in a variable; rows were taken off. -/
structure Tk (w0 : World) (g : Nat) (l : List UInt8) (L : List Rw) (w : World) : Prop where
  var : ∃ v, BlkAt g 23 [v] w ∧ Rd w0 v l
  ge : w0.heap.size ≤ g
  own : OwnG w0 L w
  ty : ∀ p ∈ L, p.ty = 5
theorem own_ne18 {w : World} {base sz g : Nat} {e ty : TypeId} {v : Value} {n : Nat} {xs cs : List Value} (h : w.ownsRow base e sz v n xs) (hb : BlkAt g ty cs w) (hne : ty ≠ e) : ∀ b, v.ownBlock = some b → b ≠ g := by
  intro b hb' e1
  subst e1
  rcases h.2 with ⟨rfl, h0⟩ | ⟨g', cap, cur, rfl, h1, h2, h3⟩
  · simp [Value.ownBlock] at hb'
  · have h4 : g' = b := by simpa [Value.ownBlock] using hb'
    subst h4
    unfold BlkAt at hb
    rw [h2] at hb
    simp at hb
    exact hne hb.2.symm
theorem Tk.tail {w0 w : World} {g : Nat} {l : List UInt8} {p : Rw} {L : List Rw} (h : Tk w0 g l (p :: L) w) : Tk w0 g l L w := ⟨h.var, h.ge, h.own.tail, fun q hq => h.ty q (List.mem_cons_of_mem _ hq)⟩
theorem Tk.kept {w0 w w' : World} {g : Nat} {l : List UInt8} {L : List Rw} (h : Tk w0 g l L w) (hb : Below w.heap.size w w') : Tk w0 g l L w' := by
  obtain ⟨v, h1, h2⟩ := h.var
  exact ⟨⟨v, h1.kept hb, h2⟩, h.ge, h.own.kept hb, h.ty⟩
/-- A block of another kind, of the call's own, is written. -/
theorem Tk.wrote {w0 w w' : World} {g g' : Nat} {l : List UInt8} {L : List Rw} {ty : TypeId} {cs : List Value} (h : Tk w0 g l L w) (hw : Wrote g' w w') (hb : BlkAt g' ty cs w) (hge : w0.heap.size ≤ g') (hne : ty ≠ 5) (hg : g ≠ g') : Tk w0 g l L w' := by
  obtain ⟨v, h1, h2⟩ := h.var
  exact ⟨⟨v, h1.wrote hw hg, h2⟩, h.ge, h.own.wrote hw hge fun p hp => own_ne18 (h.own.rows p hp) hb (by rw [h.ty p hp]; exact hne), h.ty⟩

set_option maxRecDepth 100000 in
set_option maxHeartbeats 2000000 in
theorem take18_any (x : Int) (n : Nat) (hx : x = (n : Int)) (g : Nat) (l : List UInt8) (hl : l.length ≤ 100000) (L : List Rw) (w0 w : World) (hT : Tk w0 g l L w) :
    Calls Try.prog 30 #[.int .i64 x, .pointer (some ⟨g, 0, none⟩)] w fun e w' => ∃ v, e = .returned v ∧ Tk w0 g (l.drop n) (Rw.by 5 v (l.take n) :: L) w' ∧ Chg (fun k => k = g) w w' := by
  obtain ⟨v, hV, hR0⟩ := hT.var
  obtain ⟨ab, cb, rfl, hcb, hmb, hnn, -⟩ := id hR0
  have hR : Rd w (.slice ab l.length cb) l := hR0.kept hT.own.below
  obtain ⟨N, hN⟩ : ∃ k : Nat, k = l.length := ⟨_, rfl⟩
  rw [← hN] at hcb hV hR hR0
  obtain ⟨m, hm⟩ : ∃ k : Nat, k = min n N := ⟨_, rfl⟩
  have HX : Hid (m ≤ N ∧ N ≤ cb ∧ cb ≤ maxLen ∧ (ab = none → cb = 0)) := ⟨by omega, hcb, hmb, hnn⟩
  have hmin : (if (N : Int) < x then (N : Int) else x) = (m : Int) := by subst hx; split <;> omega
  obtain ⟨ab', htail, hrest⟩ := exec_tail (ab := ab) (m := m) HX.out.1 hcb hmb hnn
  have HTl : Hid _ := @htail
  have HR' : Hid (Rd w0 (.slice ab' (N - m) (cb - m)) (l.drop n)) := by
    have h := hrest w0 l hR0
    have e1 : l.drop m = l.drop n := by
      rw [hm, hN]
      rcases Nat.le_total n l.length with h | h
      · rw [Nat.min_eq_left h]
      · rw [Nat.min_eq_right h, List.drop_eq_nil_of_le h, List.drop_eq_nil_of_le (Nat.le_refl _)]
    rw [e1] at h
    exact h
  have HR : Hid (Rd w (.slice ab m cb) (l.take n)) := by
    have h := Rd.take hR (n := m) HX.out.1
    have e1 : l.take m = l.take n := by
      rw [hm, hN]
      rcases Nat.le_total n l.length with h | h
      · rw [Nat.min_eq_left h]
      · rw [Nat.min_eq_right h, List.take_of_length_le h, List.take_of_length_le (Nat.le_refl _)]
    rw [e1] at h
    exact h
  have HLen : Hid ((l.take n).length ≤ 100000) := by show _ ≤ _; rw [List.length_take]; omega
  obtain ⟨D, hD⟩ : ∃ D : List UInt8, D = l.drop n := ⟨_, rfl⟩
  obtain ⟨K, hK⟩ : ∃ K : List UInt8, K = l.take n := ⟨_, rfl⟩
  rw [← hD, ← hK]
  rw [← hD] at HR'
  rw [← hK] at HR HLen
  have c0 : w.cell? ⟨g, 0, none⟩ = some (.slice ab N cb) := by rw [hV.cell]; rfl
  have HV : Hid (BlkAt g 23 [.slice ab N cb] w) := hV
  have HT : Hid (Tk w0 g l L w) := hT
  clear hV hR hR0 hT htail hrest hK hD hN hx hcb hmb hnn hl hm
  go_enter Try.func30, Try.ntmps30
  go_wp2_with (refine wpList_val18 rfl (exec_head _ _ (by rfl) (by rfl) (by rfl) HX.out.1 HX.out.2.1 HX.out.2.2.1 HX.out.2.2.2) ?_)
  go_wp2_with fail
  refine (join_any _ _ _ _ (RdL.one18 (e := 23) rfl HR.out) (by have := HLen.out; simp [totL]; omega)).mono ?_
  rintro e w1 ⟨v1, rfl, hN1⟩
  rw [show [K].flatten = K by simp] at hN1
  have b1 := stepB (growB _) hN1.2
  have hO1 : OwnG w0 (Rw.by 5 v1 K :: L) w1 := (HT.out.own.kept (growB _)).new hN1
  obtain ⟨a1, k1, rfl, -⟩ := id hO1.rd0
  have hV1 := HV.out.kept b1
  have c1 : w1.cell? ⟨g, 0, none⟩ = some (.slice ab N cb) := by rw [hV1.cell]; rfl
  have f1 := hV1.free 0
  have HV1 : Hid (BlkAt g 23 [.slice ab N cb] w1) := hV1
  have HO1 : Hid (OwnG w0 (Rw.by 5 (.slice a1 K.length k1) K :: L) w1) := hO1
  have HB1 : Hid (Below w.heap.size w w1) := b1
  clear hN1 b1 hO1 hV1 c0 HR
  go_wp2_with (refine wpList_val18 rfl (HTl.out _ _ (by rfl) (by rfl) (by rfl)) ?_)
  go_ret
  have hw := Wrote.set g 0 w1 (.slice ab' (N - m) (cb - m))
  have hty : ∀ p ∈ (Rw.by 5 (.slice a1 K.length k1) K :: L), p.ty = 5 := fun p hp => by
    rcases List.mem_cons.1 hp with rfl | hp
    · rfl
    · exact HT.out.ty p hp
  exact ⟨_, rfl, ⟨⟨_, HV1.out.set 0 _, HR'.out⟩, HT.out.ge, HO1.out.wrote hw HT.out.ge fun p hp => own_ne18 (HO1.out.rows p hp) HV1.out (by rw [hty p hp]; decide), hty⟩, (Chg.of_below HB1.out).trans (Chg.of_wrote hw)⟩

/-- The variable that holds the taking. -/
abbrev tkF (g : Nat) : Value := .func (.func 30) #[] #[.pointer (some ⟨g, 0, none⟩)]

set_option maxRecDepth 100000 in
set_option maxHeartbeats 2000000 in
theorem number18_any (x : Int) (n : Nat) (hx : x = (n : Int)) (g gt : Nat) (l : List UInt8) (hl : l.length ≤ 100000) (L : List Rw) (w0 w : World) (hT : Tk w0 g l L w) (hF : BlkAt gt 53 [tkF g] w) :
    Calls Try.prog 32 #[.int .i64 x, .pointer (some ⟨gt, 0, none⟩)] w fun e w' => e = .returned (.int .u64 ((leN ((l.take n).take 8) : Nat) : Int)) ∧ Tk w0 g (l.drop n) L w' ∧ Chg (fun k => k = g) w w' := by
  have c0 : w.cell? ⟨gt, 0, none⟩ = some (tkF g) := by rw [hF.cell]; rfl
  have HT : Hid (Tk w0 g l L w) := hT
  have HL : Hid (l.length ≤ 100000) := hl
  have HX : Hid (x = (n : Int)) := hx
  obtain ⟨K, hK⟩ : ∃ K : List UInt8, K = l.take n := ⟨_, rfl⟩
  rw [← hK]
  have HK : Hid (K = l.take n) := hK
  clear hT hF hl hx hK
  go_enter Try.func32, Try.ntmps32
  go_wp2_with fail
  refine (take18_any x n HX.out g l HL.out L w0 _ HT.out).mono ?_
  rintro e w1 ⟨v1, rfl, hT1, hC1⟩
  rw [← HK.out] at hT1
  obtain ⟨a1, k1, rfl, -⟩ := id hT1.own.rd0
  have HT1 : Hid (Tk w0 g (l.drop n) L w1) := hT1.tail
  have HR1 : Hid (Rd w1 (.slice a1 K.length k1) K) := hT1.own.rd0
  have HC1 : Hid (Chg (fun k => k = g) w w1) := hC1
  clear hT1 hC1 c0
  go_wp2_with fail
  refine (load_any _ K _ HR1.out).mono ?_
  rintro e w2 ⟨rfl, rfl⟩
  go_wp2
  go_ret
  exact ⟨rfl, HT1.out, HC1.out⟩

set_option maxRecDepth 100000 in
set_option maxHeartbeats 2000000 in
theorem rest18_any (g gt : Nat) (l : List UInt8) (hl : l.length ≤ 100000) (L : List Rw) (w0 w : World) (hT : Tk w0 g l L w) (hF : BlkAt gt 53 [tkF g] w) :
    Calls Try.prog 31 #[.pointer (some ⟨gt, 0, none⟩), .pointer (some ⟨g, 0, none⟩)] w fun e w' => ∃ v, e = .returned v ∧ Tk w0 g [] (Rw.by 5 v l :: L) w' ∧ Chg (fun k => k = g) w w' := by
  have c0 : w.cell? ⟨gt, 0, none⟩ = some (tkF g) := by rw [hF.cell]; rfl
  obtain ⟨v, hV, hR0⟩ := hT.var
  obtain ⟨ab, cb, rfl, -⟩ := id hR0
  obtain ⟨N, hN⟩ : ∃ k : Nat, k = l.length := ⟨_, rfl⟩
  rw [← hN] at hV
  have c1 : w.cell? ⟨g, 0, none⟩ = some (.slice ab N cb) := by rw [hV.cell]; rfl
  have HT : Hid (Tk w0 g l L w) := hT
  have HL : Hid (l.length ≤ 100000) := hl
  have HN : Hid (N = l.length) := hN
  clear hT hF hl hV hR0 hN
  go_enter Try.func31, Try.ntmps31
  go_wp2_with fail
  refine (take18_any (N : Int) N rfl g l HL.out L w0 _ HT.out).mono ?_
  rintro e w1 ⟨v1, rfl, hT1, hC1⟩
  rw [List.take_of_length_le (by rw [HN.out]; exact Nat.le_refl _), List.drop_eq_nil_of_le (by rw [HN.out]; exact Nat.le_refl _)] at hT1
  obtain ⟨a1, k1, rfl, -⟩ := id hT1.own.rd0
  have HT1 : Hid (Tk w0 g [] (Rw.by 5 (.slice a1 l.length k1) l :: L) w1) := hT1
  have HC1 : Hid (Chg (fun k => k = g) w w1) := hC1
  clear hT1 hC1 c0 c1
  go_wp2
  go_ret
  exact ⟨_, rfl, HT1.out, HC1.out⟩
end Go.Proofs.Ytonnngndknoljaa
