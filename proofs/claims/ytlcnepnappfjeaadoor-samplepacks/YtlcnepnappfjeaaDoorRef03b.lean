/- What comes out of a state, as the document says it: a contract of the reference of layer 3, second part. -/
import Derived.Test.YtlcnepnappfjeaaDoorRef03a
import Derived.Test.YtlcnepnappfjeaaDoorRef02g
namespace Go.Proofs.YtlcnepnappfjeaaDoor
open Go.ChangeShapes Go.WideShapes Go.ChangeAt Go.RowKit
set_option linter.unusedSimpArgs false
set_option linter.unusedVariables false


/-- A row of another kind of cells is as it was behind an append. -/
theorem NewI.past {k : IntKind} {e e' : TypeId} {w w2 w3 : World} {v o : Value} {l : List Int} {lo : List UInt8} (h : NewI k e w v l w2) (ho : New e' w o lo w2) (hne : e ≠ e') (hg : w2.grownBy w3 o.ownBlock) (hb : Below w.heap.size w w3) : NewI k e w v l w3 := by
  refine ⟨⟨h.1.1, h.1.2.imp id ?_⟩, hb⟩
  rintro ⟨g, cap, cur, e1, h2, h3, h4⟩
  refine ⟨g, cap, cur, e1, h2, ?_, h4⟩
  rw [hg.block g (Array.getElem?_eq_some_iff.1 h3).1 ?_, h3]
  intro hc
  rcases ho.1.2 with ⟨rfl, _⟩ | ⟨g', cap', cur', rfl, _, h3', _⟩
  · cases hc
  · simp only [Value.ownBlock, Option.some.injEq] at hc
    subst hc
    rw [h3] at h3'
    simp only [Option.some.injEq, Obj.cells.injEq] at h3'
    exact hne h3'.2.1
theorem NewI.from {k : IntKind} {e : TypeId} {w wr w2 : World} {v : Value} {l : List Int} (h : NewI k e wr v l w2) (hb : Below w.heap.size w wr) : NewI k e w v l w2 := by
  refine ⟨⟨h.1.1, h.1.2.imp id ?_⟩, hb.trans (h.2.mono hb.size)⟩
  rintro ⟨g, cap, cur, e1, h2, h3⟩
  exact ⟨g, cap, cur, e1, Nat.le_trans hb.size h2, h3⟩
/-- A state that lies where it lay at the start, or in new memory. -/
def AtI (e : TypeId) (w : World) (va : Value) (v : Value) (f : Nat → Nat) (wr : World) : Prop := (v = va ∧ RdI .u64 w va (stL f) ∧ Below w.heap.size w wr) ∨ NewI .u64 e w v (stL f) wr
theorem AtI.rd {e : TypeId} {w wr : World} {va v : Value} {f : Nat → Nat} (h : AtI e w va v f wr) : RdI .u64 wr v (stL f) := by
  rcases h with ⟨rfl, h, hb⟩ | h
  · exact h.kept hb
  · exact h.rd
theorem AtI.kept {e : TypeId} {w wr w2 : World} {va v : Value} {f : Nat → Nat} (h : AtI e w va v f wr) (hb : Below wr.heap.size wr w2) : AtI e w va v f w2 := by
  rcases h with ⟨rfl, h, hb0⟩ | h
  · exact .inl ⟨rfl, h, stepB hb0 hb⟩
  · exact .inr (h.kept hb)
theorem AtI.past {e e' : TypeId} {w w2 w3 : World} {va v o : Value} {f : Nat → Nat} {lo lo' : List UInt8} {o' : Value} (h : AtI e w va v f w2) (ho : New e' w o lo w2) (hne : e ≠ e') (hg : w2.grownBy w3 o.ownBlock) (ho' : New e' w o' lo' w3) : AtI e w va v f w3 := by
  rcases h with ⟨rfl, h, hb0⟩ | h
  · exact .inl ⟨rfl, h, ho'.2⟩
  · exact .inr (h.past ho hne hg ho'.2)

set_option maxHeartbeats 1000000 in
theorem out_any (va : Value) (f : Nat → Nat) (hf : ∀ i, f i < 18446744073709551616) (r n : Nat) (h1 : 0 < r) (h2 : r ≤ 200) (hn : n ≤ 1000000) (w : World) (hr : RdI .u64 w va (stL f)) :
    Calls Tryd.prog 57 #[va, .int .i64 (r : Int), .int .i64 (n : Int)] w fun e w' => ∃ v, e = .returned v ∧ Rd w' v (otL f r n) ∧ Below w.heap.size w w' := by
  have HF : Hid (∀ i, f i < 18446744073709551616) := hf
  clear hf
  go_enter Tryd.func57, Tryd.ntmps57
  go_wp2
  go_loopw [0, 7] (fun v o wr => ∃ m : Nat, m * r ≤ n + r ∧ New 5 w o (otL f r (m * r)) wr ∧ (n ≤ m * r ∨ AtI 65 w va v (itF f m) wr)) (fun _ o _ => n - sLen o)
  case atStart => exact ⟨0, by omega, by rw [Nat.zero_mul]; exact New.start w, .inr (.inl ⟨rfl, hr, Below.refl _ _⟩)⟩
  case round =>
    obtain ⟨m, hm, hN, hR⟩ := hrel
    clear hr
    obtain ⟨a, cap, rfl, hcap, hmax, hnil, -⟩ := hN.rd
    rw [otL_length] at hcap
    have el := otL_length f r (m * r)
    rw [el] at hN ⊢
    clear el
    obtain ⟨L, hL⟩ : ∃ L : Nat, L = m * r := ⟨_, rfl⟩
    have HL : Hid (L = m * r) := hL
    rw [← hL] at hm hN hR hcap ⊢
    clear hL
    by_cases hlt : L < n
    · have hd : decide ((L : Int) < (n : Int)) = true := decide_eq_true (by omega)
      have hLI : (L : Int) < n := by omega
      have hR2 : AtI 65 w va u0 (itF f m) wr := hR.resolve_left (by omega)
      clear hR
      go_wp2_with fail
      refine (bytes_any _ (itF f m) (itF_lt f HF.out m) _ hR2.rd).mono ?_
      rintro e w2 ⟨v2, rfl, hN2⟩
      obtain ⟨a2, cap2, rfl, hcap2, hmax2, hnil2, -⟩ := hN2.rd
      rw [bsP_length] at hcap2
      have hN3 := hN.kept hN2.2
      have hR3 := hR2.kept hN2.2
      have hT := hN2.rd
      rw [bsP_length] at hT
      replace hT := hT.take (n := r) (by omega)
      rw [bsP_take _ _ _ h2] at hT
      have el := bsP_length (itF f m) 200
      rw [el]
      clear el hN hN2 hR2
      have hrI : (r : Int) ≤ cap2 := by omega
      have HE : Hid _ := otL_next f r m h1
      rw [← HL.out] at HE
      have HB : Hid ((m + 1) * r = L + r) := by
        have := HL.out
        show (m + 1) * r = L + r
        rw [Nat.add_mul, Nat.one_mul, this]
      go_wp2_with (at_builtin; go_must (refine wpList_append_new (w := w) rfl _ _ 22 rfl 5 Tryd.underlying22 infoU8 _ _ rfl hN3 _ _ rfl hT (by simp [otL_length, bsP_length]; omega) ?_))
      intro v' w3 hN4 hgr
      have hR4 := hR3.past hN3 (by decide) hgr hN4
      rw [HE.out, HB.out] at hN4
      clear hN3 hR3 hT hgr HE
      obtain ⟨a4, cap4, rfl, hcap4, hmax4, hnil4, -⟩ := hN4.rd
      rw [otL_length] at hcap4
      have el := otL_length f r (L + r)
      rw [el] at hN4 ⊢
      clear el
      by_cases hlt2 : L + r < n
      · have hd2 : decide (((L : Int) + (r : Int)) < (n : Int)) = true := decide_eq_true (by omega)
        have hd3 : decide (((L + r : Nat) : Int) < (n : Int)) = true := decide_eq_true (by omega)
        have hLI2 : (L : Int) + (r : Int) < n := by omega
        go_wp2_with fail
        refine (fast_any _ (itF f m) (itF_lt f HF.out m) _ hR4.rd).mono ?_
        rintro e w5 ⟨v5, rfl, hN5⟩
        have hN6 := hN4.kept hN5.2
        have hR6 : AtI 65 w va v5 (itF f (m + 1)) w5 := .inr (hN5.from hN4.2)
        clear hN5 hN4 hR4
        go_wp2
        go_roundw
        case rel => exact ⟨m + 1, by rw [HB.out]; omega, by rw [HB.out]; exact hN6, .inr hR6⟩
        case measure => simp [sLen]; omega
      · have hd2 : decide (((L : Int) + (r : Int)) < (n : Int)) = false := decide_eq_false (by omega)
        have hd3 : decide (((L + r : Nat) : Int) < (n : Int)) = false := decide_eq_false (by omega)
        have hLI2 : (n : Int) ≤ (L : Int) + (r : Int) := by omega
        go_wp2
        go_roundw
        case rel => exact ⟨m + 1, by rw [HB.out]; omega, by rw [HB.out]; exact hN4, .inl (by rw [HB.out]; omega)⟩
        case measure => simp [sLen]; omega
    · have hd : decide ((L : Int) < (n : Int)) = false := decide_eq_false (by omega)
      have hLI : (n : Int) ≤ L := by omega
      have hT := hN.rd.take (n := n) (by omega)
      rw [otL_take _ _ _ _ (by omega)] at hT
      have hb := hN.2
      have hnc : (n : Int) ≤ cap := by omega
      clear hN hR
      cases a with
      | none =>
        have h0 := hnil rfl
        subst h0
        have hL0 : L = 0 := by omega
        have hn0 : n = 0 := by omega
        subst hL0 hn0
        go_wp2
        go_ret
        exact ⟨_, rfl, hT, hb⟩
      | some p =>
        go_wp2
        go_ret
        exact ⟨_, rfl, hT, hb⟩
end Go.Proofs.YtlcnepnappfjeaaDoor
