/- What the document's own Absorb answers, for all bytes, rates and suffixes: a contract of the reference of layer 3, third part. -/
import Derived.Test.YtlcnepnappfjeaaDoorRef03b
import Derived.Test.YtlcnepnappfjeaaDoorBase
namespace Go.Proofs.YtlcnepnappfjeaaDoor
open Go.ChangeShapes Go.WideShapes Go.ChangeAt Go.RowKit
set_option linter.unusedSimpArgs false
set_option linter.unusedVariables false

/-- Bytes as numbers. -/
def bI (l : List UInt8) : List Int := l.map fun x => (x.toNat : Int)
theorem bI_length (l : List UInt8) : (bI l).length = l.length := by simp [bI]
theorem bI_map (l : List UInt8) : (bI l).map (Value.int .u8) = l.map bv := by simp [bI, bv, Function.comp_def]
theorem bI_get (l : List UInt8) (j : Nat) (h : j < l.length) : (bI l).getD j 0 = ((l.getD j 0).toNat : Int) := by simp [bI, h]
theorem bI_set (l : List UInt8) (j : Nat) (x : UInt8) : (bI l).set j (x.toNat : Int) = bI (l.set j x) := by simp [bI, List.map_set]
theorem New.toI {e : TypeId} {w w' : World} {v : Value} {l : List UInt8} (h : New e w v l w') : NewI .u8 e w v (bI l) w' := by
  refine ⟨?_, h.2⟩
  rw [bI_map, bI_length]
  exact h.1
theorem NewI.toB {e : TypeId} {w w' : World} {v : Value} {l : List UInt8} (h : NewI .u8 e w v (bI l) w') : New e w v l w' := by
  refine ⟨?_, h.2⟩
  have := h.1
  rw [bI_map, bI_length] at this
  exact this

set_option maxHeartbeats 1000000 in
theorem absorb_out (R S : Int) (hR : R < 1 ∨ 200 < R) (vb : Value) (w : World) :
    Calls Tryd.prog 28 #[.int .i64 R, .int .u8 S, vb] w fun e w' => ∃ v, e = .returned v ∧ RdI .u64 w' v (stL fun _ => 0) ∧ Below w.heap.size w w' := by
  obtain ⟨i, hi, hz0, hz1, hz2⟩ := info_parts infoU64
  rcases hR with h | h
  · have hd : decide (R < 1) = true := decide_eq_true h
    go_enter Tryd.func28, Tryd.ntmps28
    go_wp2_with (at_make; go_must (refine wpList_make_full _ rfl _ _ 52 rfl w.heap.size 65 i _ 1 Tryd.underlying52 hi hz0 hz1 _ _ _ _ 25 rfl rfl rfl rfl (by rw [hz2]; omega) (by unfold maxLen; omega) (Nat.le_refl _) ?_))
    intro w1 hown hgr
    have hN := NewI.made hown hgr
    rw [stL_zero] at hN
    clear hown hgr
    go_wp2
    go_ret
    exact ⟨_, rfl, hN.rd, hN.2⟩
  · have hd : decide (R < 1) = false := decide_eq_false (by omega)
    have hd2 : decide (200 < R) = true := decide_eq_true h
    have h1 : ¬ R < 1 := by omega
    go_enter Tryd.func28, Tryd.ntmps28
    go_wp2_with (at_make; go_must (refine wpList_make_full _ rfl _ _ 52 rfl w.heap.size 65 i _ 1 Tryd.underlying52 hi hz0 hz1 _ _ _ _ 25 rfl rfl rfl rfl (by rw [hz2]; omega) (by unfold maxLen; omega) (Nat.le_refl _) ?_))
    intro w1 hown hgr
    have hN := NewI.made hown hgr
    rw [stL_zero] at hN
    clear hown hgr
    go_wp2
    go_ret
    exact ⟨_, rfl, hN.rd, hN.2⟩

theorem AtI.b {e : TypeId} {w wr : World} {va v : Value} {f : Nat → Nat} (h : AtI e w va v f wr) : Below w.heap.size w wr := by
  rcases h with ⟨rfl, _, hb⟩ | h
  · exact hb
  · exact h.2
theorem cellY {w W : World} {p : Addr} {v : Value} (h : w.cell? p = some v) (hb : Below w.drew.heap.size w.drew W) : W.cell? p = some v := by
  have h1 : w.drew.cell? p = some v := h
  rw [hb.cell (World.block_lt_of_cell? _ _ h1)]
  exact h1
set_option maxRecDepth 100000 in
set_option maxHeartbeats 4000000 in
theorem absorb_in (r : Nat) (h1 : 0 < r) (h2 : r ≤ 200) (s : UInt8) (vb : Value) (l : List UInt8) (hl : l.length ≤ 1000000) (w : World) (hr : Rd w vb l) :
    Calls Tryd.prog 28 #[.int .i64 (r : Int), .int .u8 (s.toNat : Int), vb] w fun e w' => ∃ v, e = .returned v ∧ RdI .u64 w' v (stL (abN r (padL r s l) (blN r l))) ∧ Below w.heap.size w w' := by
  obtain ⟨i, hi, hz0, hz1, hz2⟩ := info_parts infoU64
  have hd1 : decide ((r : Int) < 1) = false := decide_eq_false (by omega)
  have hd2 : decide ((200 : Int) < (r : Int)) = false := decide_eq_false (by omega)
  have hr1 : ¬ (r : Int) < 1 := by omega
  have hr2 : ¬ (200 : Int) < (r : Int) := by omega
  have hr0 : ((r : Int) == 0) = false := by simp; omega
  have hrp : (0 : Int) < (r : Int) := by omega
  go_enter Tryd.func28, Tryd.ntmps28
  go_wp2_with (at_make; go_must (refine wpList_make_full _ rfl _ _ 52 rfl w.heap.size 65 i _ 1 Tryd.underlying52 hi hz0 hz1 _ _ _ _ 25 rfl rfl rfl rfl (by rw [hz2]; omega) (by unfold maxLen; omega) (Nat.le_refl _) ?_))
  intro w1 hown hgr
  have hA := NewI.made hown hgr
  rw [stL_zero] at hA
  have hr1' := hr.kept hA.2
  clear hown hgr hi hz0 hz1 hz2 hr
  go_wp2_with (at_builtin; go_must (refine wpList_append_new (w := w1) rfl _ _ 22 rfl 5 Tryd.underlying22 infoU8 _ _ rfl (New.start w1) _ _ rfl hr1' (by simp; omega) ?_))
  intro v2 w2 hN2 _
  clear hr1'
  go_wp2_with (at_builtin; go_must (refine wpList_append_new (w := w1) rfl _ _ 22 rfl 5 Tryd.underlying22 infoU8 _ _ rfl (hN2.alloc _) _ _ rfl (Rd.lit1 s rfl) (by simp; omega) ?_))
  intro v3 w3 hN3 _
  clear hN2
  have hN4 : New 5 w1 v3 (pdP s l 0) w3 := by simpa [pdP] using hN3
  clear hN3
  go_wp2
  go_loopw [8] (fun v wr => ∃ z : Nat, z ≤ zN r l.length ∧ New 5 w1 v (pdP s l z) wr) (fun v _ => l.length + 1 + zN r l.length - sLen v)
  case atStart => exact ⟨0, by omega, hN4⟩
  case round =>
    obtain ⟨z, hz, hN5⟩ := hrel
    clear hN4
    obtain ⟨a, cap, rfl, hcap, hmax, hnil, -⟩ := hN5.rd
    have el := pdP_length s l z
    rw [el] at hcap hN5 ⊢
    clear el
    have hzr := zN_lt r l.length h1
    obtain ⟨L, hL⟩ : ∃ L : Nat, L = l.length + 1 + z := ⟨_, rfl⟩
    have HL : Hid (L = l.length + 1 + z) := hL
    obtain ⟨q, hq⟩ : ∃ q : Nat, q = L % r := ⟨_, rfl⟩
    have t1 : (L : Int).tmod (r : Int) = (q : Int) := by rw [hq]; exact Int.tmod_eq_emod_of_nonneg (by omega)
    have t2 : (L : Int) % (r : Int) = (q : Int) := by rw [hq]; simp
    rw [← hL] at hcap hN5 ⊢
    by_cases hlt : z < zN r l.length
    · have hq0 : q ≠ 0 := by
        rw [hq, hL]
        exact zN_least r l.length z h1 hlt
      have hd : (((q : Nat) : Int) != 0) = true := by simp; omega
      have hqi : ((q : Int)) ≠ 0 := by omega
      clear hq hL
      go_wp2_with (at_builtin; go_must (refine wpList_append_new (w := w1) rfl _ _ 22 rfl 5 Tryd.underlying22 infoU8 _ _ rfl (hN5.alloc _) _ _ rfl (Rd.lit1 0 rfl) (by simp [pdP_length]; have := HL.out; omega) ?_))
      intro v6 w6 hN6 _
      rw [pdP_next] at hN6
      obtain ⟨a6, cap6, rfl, hcap6, hmax6, hnil6, -⟩ := hN6.rd
      have el := pdP_length s l (z + 1)
      rw [el] at hN6 ⊢
      clear el hcap6 hmax6 hnil6
      have hLe := HL.out
      go_wp2
      go_roundw
      case rel => exact ⟨z + 1, by omega, hN6⟩
      case measure => simp [sLen]; omega
    · have hze : z = zN r l.length := by omega
      have hq0 : q = 0 := by
        rw [hq, hL, hze]
        exact zN_full r l.length h1
      have hd : (((q : Nat) : Int) != 0) = false := by rw [hq0]; rfl
      have hqi : ((q : Int)) = 0 := by omega
      obtain ⟨J, hJ⟩ : ∃ J : Nat, J = l.length + z := ⟨_, rfl⟩
      have hLJ : L = J + 1 := by omega
      have hne : pdP s l z ≠ [] := by
        intro h
        have := pdP_length s l z
        rw [h] at this
        simp at this
        omega
      obtain ⟨g, cap', ev, hg, hrow⟩ := hN5.toI.row (by intro h; apply hne; simpa [bI] using h)
      simp only [Value.slice.injEq] at ev
      obtain ⟨rfl, -, rfl⟩ := ev
      have hbw := hN5.2
      have hc := hrow.cell (j := J) (by rw [bI_length, pdP_length]; omega)
      have hcf := hrow.free J
      rw [bI_get _ _ (by rw [pdP_length]; omega)] at hc
      have HX : Hid _ := byte_xor ((pdP s l z).getD J 0) 128
      have HW : Hid (∀ x : Int, x = (((pdP s l z).getD J 0 ^^^ 128).toNat : Int) → RowAt .u8 5 g cap (bI (padL r s l)) (wr.setCell ⟨g, J, none⟩ (.int .u8 x)) ∧ Below w1.heap.size w1 (wr.setCell ⟨g, J, none⟩ (.int .u8 x))) := by
        intro x hx
        have h3 := hrow.set J x
        rw [hx, bI_set] at h3
        have ep : (pdP s l z).set J ((pdP s l z).getD J 0 ^^^ 128) = padL r s l := by
          unfold padL
          rw [← hze, ← hJ]
        rw [ep, ← hx] at h3
        exact ⟨h3, hbw.setCell hg _⟩
      generalize (pdP s l z).getD J 0 = x at hc HX HW
      have wL : IntKind.i64.wrap ((L : Int) - 1) = (J : Int) := by rw [hLJ]; rw [show (((J + 1 : Nat) : Int) - 1) = (J : Int) by omega]; exact IntWalk.i64_in _ (by omega)
      have lJ : (J : Int) < (L : Int) := by omega
      have hJb : J ≤ 1000300 := by omega
      have hLb : L ≤ 1000300 := by omega
      have HPL : Hid ((padL r s l).length = L) := by
        show (padL r s l).length = L
        rw [padL_length, hL, hze]
      have HB : Hid (blN r l * r = L) := by
        show blN r l * r = L
        rw [blN_mul r l h1, hL, hze]
      clear hN5 hrow hne hq hL hze hq0 hJ hlt hbw hnil hz hzr hLJ
      go_wp2
      obtain ⟨hP, hbW⟩ := HW.out _ HX.out
      have e128 : (((128 : UInt8).toNat : Nat) : Int) = 128 := rfl
      rw [e128] at hP hbW
      generalize wr.setCell ⟨g, J, none⟩ (.int .u8 (bits .xor .u8 (x.toNat : Int) 128)) = W2 at hP hbW
      clear HW HX hc hcf wL lJ e128
      have hA2 := hA.rd.kept hbW
      have hb0 := stepB hA.2 hbW
      have hPr := hP.rd
      rw [bI_length, HPL.out] at hPr
      obtain ⟨P, hPP⟩ : ∃ P, P = padL r s l := ⟨_, rfl⟩
      rw [← hPP] at HPL hP hPr
      have HPP : Hid (P = padL r s l) := hPP
      clear hPP
      have HPr : Hid (Rd W2 (.slice (some ⟨g, 0, none⟩) L cap) P) := by
        have h3 : NewI .u8 5 w1 (.slice (some ⟨g, 0, none⟩) (bI P).length cap) (bI P) W2 := hP.new hg hbW
        have h4 := h3.toB.rd
        rw [bI_length, HPL.out] at h4
        exact h4
      clear hP hPr hbW
      obtain ⟨nb, hnb⟩ : ∃ nb, nb = blN r l := ⟨_, rfl⟩
      rw [← hnb] at HB
      have HNB : Hid (nb = blN r l) := hnb
      clear hnb
      go_loopw [7, 9] (fun v i wr2 => ∃ b I : Nat, Hid (I = b * r) ∧ b ≤ nb ∧ i = .int .i64 I ∧ AtI 65 W2 (.slice (some ⟨w.heap.size, 0, none⟩) 25 25) v (abN r P b) wr2) (fun _ i _ => L - (intOf i).toNat)
      case atStart => exact ⟨0, 0, by simp [Hid], by omega, rfl, .inl ⟨rfl, hA2, Below.refl _ _⟩⟩
      case round =>
        obtain ⟨b, I, HI, hb, rfl, hT⟩ := hrel
        clear hA2
        have hIL : I < L → I + r ≤ L ∧ b < nb := by
          intro h
          have e1 := HI.out
          have e2 := HB.out
          have h3 : b < nb := by
            rcases Nat.lt_or_ge b nb with h4 | h4
            · exact h4
            · have := Nat.mul_le_mul_right r h4
              omega
          have h5 := Nat.mul_le_mul_right r (show b + 1 ≤ nb from h3)
          rw [Nat.add_mul, Nat.one_mul] at h5
          exact ⟨by omega, h3⟩
        by_cases hlt : I < L
        · obtain ⟨hIr, hbn⟩ := hIL hlt
          clear hIL
          have hd5 : decide ((I : Int) < (L : Int)) = true := decide_eq_true (by omega)
          have hII : (I : Int) < (L : Int) := by omega
          go_wp2_with fail
          refine (bytes_any _ (abN r P b) (abN_lt r P b) _ hT.rd).mono ?_
          rintro e w5 ⟨v5, rfl, hN5⟩
          have hbT := hT.b
          clear hT
          have es := bsP_length (abN r P b) 200
          obtain ⟨g5, cap5, ev5, hg5, hrow5⟩ := hN5.toI.row (by intro h; have h6 := congrArg List.length h; rw [bI_length, es] at h6; simp at h6)
          rw [bI_length, es] at ev5
          subst ev5
          have hcap5 := hrow5.cap
          rw [bI_length, es] at hcap5
          have hb5 := hN5.2
          rw [xhP_zero _ P I es] at hrow5
          clear hN5
          obtain ⟨V, rfl⟩ : ∃ V, V = wr := ⟨_, rfl⟩
          go_wp2
          go_loopw [11] (fun k wr3 => ∃ K : Nat, K ≤ r ∧ k = .int .i64 K ∧ RowAt .u8 5 g5 cap5 (bI (xhP (bsP (abN r P b) 200) P I K)) wr3 ∧ Below V.heap.size V wr3) (fun k _ => r - (intOf k).toNat)
          case atStart => exact ⟨0, by omega, rfl, hrow5, hb5⟩
          case round =>
            obtain ⟨K, hK, rfl, hrow6, hb6⟩ := hrel
            clear hrow5 hb5
            by_cases hKlt : K < r
            · have hd6 : decide ((K : Int) < (r : Int)) = true := decide_eq_true (by omega)
              have hKI : (K : Int) < (r : Int) := by omega
              have hK2 : (K : Int) < 200 := by omega
              have cs := hrow6.cell (j := K) (by rw [bI_length, xhP_length]; omega)
              have fs := hrow6.free K
              rw [bI_get _ _ (by rw [xhP_length]; omega), xhP_get _ _ _ _ (by omega)] at cs
              obtain ⟨bb, off, cc, ev, _, cp, _⟩ := (HPr.out.kept (stepB hbT hb6)).cellAt (i := I + K) (by rw [HPL.out]; omega)
              simp only [Value.slice.injEq, Option.some.injEq, Addr.mk.injEq, and_true] at ev
              obtain ⟨⟨rfl, rfl⟩, -, rfl⟩ := ev
              rw [Nat.zero_add] at cp
              have HX : Hid _ := byte_xor ((bsP (abN r P b) 200).getD K 0) (P.getD (I + K) 0)
              have HS : Hid (∀ x : Int, x = (((bsP (abN r P b) 200).getD K 0 ^^^ P.getD (I + K) 0).toNat : Int) → RowAt .u8 5 g5 cap5 (bI (xhP (bsP (abN r P b) 200) P I (K + 1))) (wr.setCell ⟨g5, K, none⟩ (.int .u8 x)) ∧ Below V.heap.size V (wr.setCell ⟨g5, K, none⟩ (.int .u8 x))) := by
                intro x hx
                refine ⟨?_, hb6.setCell (p := ⟨g5, K, none⟩) hg5 _⟩
                have h7 := hrow6.set K x
                rw [hx, bI_set, xhP_set, ← hx] at h7
                exact h7
              generalize (bsP (abN r P b) 200).getD K 0 = y1 at cs HX HS
              generalize P.getD (I + K) 0 = y2 at cp HX HS
              have wI : IntKind.i64.wrap ((I : Int) + (K : Int)) = (I : Int) + (K : Int) := IntWalk.i64_in _ (by omega)
              have nI : ((I : Int) + (K : Int)).toNat = I + K := by omega
              have pI : 0 ≤ (I : Int) + (K : Int) := by omega
              have lI : (I : Int) + (K : Int) < (L : Int) := by omega
              clear hrow6 hb6
              go_wp2_with fail
              refine wpE_begin 14 (by kernel_rfl) ?_
              refine wpE_take (i := 0) (oi := { dst := some 61, op := Op.move (Operand.tmp 10), type := 22, pos := "ref.go:43", after := #[], guard := none }) (v := ?_) rfl (by decide) (by kernel_rfl) (by kernel_rfl) (by kernel_rfl) (by kernel_rfl) (by rfl) ?_ ?_
              rotate_left
              · intro W hW; first | (go_simp; done) | (go_simp; with_reducible rfl)
              try simp only [Act.put, List.setIfInBounds_toArray, List.set_cons_zero, List.set_cons_succ]
              refine wpE_take (i := 1) (oi := { dst := some 62, op := Op.move (Operand.tmp 11), type := 3, pos := "ref.go:43", after := #[], guard := none }) (v := ?_) rfl (by decide) (by kernel_rfl) (by kernel_rfl) (by kernel_rfl) (by kernel_rfl) (by rfl) ?_ ?_
              rotate_left
              · intro W hW; first | (go_simp; done) | (go_simp; with_reducible rfl)
              try simp only [Act.put, List.setIfInBounds_toArray, List.set_cons_zero, List.set_cons_succ]
              refine wpE_take (i := 2) (oi := { dst := some 63, op := Op.move (Operand.tmp 10), type := 22, pos := "ref.go:43", after := #[], guard := none }) (v := ?_) rfl (by decide) (by kernel_rfl) (by kernel_rfl) (by kernel_rfl) (by kernel_rfl) (by rfl) ?_ ?_
              rotate_left
              · intro W hW; first | (go_simp; done) | (go_simp; with_reducible rfl)
              try simp only [Act.put, List.setIfInBounds_toArray, List.set_cons_zero, List.set_cons_succ]
              refine wpE_take (i := 3) (oi := { dst := some 64, op := Op.move (Operand.tmp 11), type := 3, pos := "ref.go:43", after := #[], guard := none }) (v := ?_) rfl (by decide) (by kernel_rfl) (by kernel_rfl) (by kernel_rfl) (by kernel_rfl) (by rfl) ?_ ?_
              rotate_left
              · intro W hW; first | (go_simp; done) | (go_simp; with_reducible rfl)
              try simp only [Act.put, List.setIfInBounds_toArray, List.set_cons_zero, List.set_cons_succ]
              refine wpE_take (i := 4) (oi := { dst := some 65, op := Op.indexAddr 22 (Operand.tmp 63) (Operand.tmp 64), type := 0, pos := "ref.go:43", after := #[{ on := 2, ground := Ground.data }, { on := 3, ground := Ground.data }], guard := none }) (v := ?_) rfl (by decide) (by kernel_rfl) (by kernel_rfl) (by kernel_rfl) (by kernel_rfl) (by rfl) ?_ ?_
              rotate_left
              · intro W hW; first | (go_simp; done) | (go_simp; with_reducible rfl)
              try simp only [Act.put, List.setIfInBounds_toArray, List.set_cons_zero, List.set_cons_succ]
              refine wpE_take (i := 5) (oi := { dst := some 66, op := Op.load 5 (Operand.tmp 65), type := 5, pos := "ref.go:43", after := #[{ on := 4, ground := Ground.data }], guard := none }) (v := ?_) rfl (by decide) (by kernel_rfl) (by kernel_rfl) (by kernel_rfl) (by kernel_rfl) (by rfl) ?_ ?_
              rotate_left
              · intro W hW; have hcW := cellY cs hW; first | (go_simp; done) | (go_simp; with_reducible rfl)
              try simp only [Act.put, List.setIfInBounds_toArray, List.set_cons_zero, List.set_cons_succ]
              refine wpE_take (i := 6) (oi := { dst := some 67, op := Op.move (Operand.tmp 8), type := 22, pos := "ref.go:43", after := #[], guard := none }) (v := ?_) rfl (by decide) (by kernel_rfl) (by kernel_rfl) (by kernel_rfl) (by kernel_rfl) (by rfl) ?_ ?_
              rotate_left
              · intro W hW; first | (go_simp; done) | (go_simp; with_reducible rfl)
              try simp only [Act.put, List.setIfInBounds_toArray, List.set_cons_zero, List.set_cons_succ]
              refine wpE_take (i := 7) (oi := { dst := some 68, op := Op.move (Operand.tmp 9), type := 3, pos := "ref.go:43", after := #[], guard := none }) (v := ?_) rfl (by decide) (by kernel_rfl) (by kernel_rfl) (by kernel_rfl) (by kernel_rfl) (by rfl) ?_ ?_
              rotate_left
              · intro W hW; first | (go_simp; done) | (go_simp; with_reducible rfl)
              try simp only [Act.put, List.setIfInBounds_toArray, List.set_cons_zero, List.set_cons_succ]
              refine wpE_take (i := 8) (oi := { dst := some 69, op := Op.move (Operand.tmp 11), type := 3, pos := "ref.go:43", after := #[], guard := none }) (v := ?_) rfl (by decide) (by kernel_rfl) (by kernel_rfl) (by kernel_rfl) (by kernel_rfl) (by rfl) ?_ ?_
              rotate_left
              · intro W hW; first | (go_simp; done) | (go_simp; with_reducible rfl)
              try simp only [Act.put, List.setIfInBounds_toArray, List.set_cons_zero, List.set_cons_succ]
              refine wpE_take (i := 9) (oi := { dst := some 70, op := Op.binOp BinOp.add 3 (Operand.tmp 68) (Operand.tmp 69) 3, type := 3, pos := "ref.go:43", after := #[{ on := 7, ground := Ground.data }, { on := 8, ground := Ground.data }], guard := none }) (v := ?_) rfl (by decide) (by kernel_rfl) (by kernel_rfl) (by kernel_rfl) (by kernel_rfl) (by rfl) ?_ ?_
              rotate_left
              · intro W hW; first | (go_simp; done) | (go_simp; with_reducible rfl)
              try simp only [Act.put, List.setIfInBounds_toArray, List.set_cons_zero, List.set_cons_succ]
              refine wpE_take (i := 10) (oi := { dst := some 71, op := Op.indexAddr 22 (Operand.tmp 67) (Operand.tmp 70), type := 0, pos := "ref.go:43", after := #[{ on := 6, ground := Ground.data }, { on := 9, ground := Ground.data }], guard := none }) (v := ?_) rfl (by decide) (by kernel_rfl) (by kernel_rfl) (by kernel_rfl) (by kernel_rfl) (by rfl) ?_ ?_
              rotate_left
              · intro W hW; first | (go_simp; done) | (go_simp; with_reducible rfl)
              try simp only [Act.put, List.setIfInBounds_toArray, List.set_cons_zero, List.set_cons_succ]
              refine wpE_take (i := 11) (oi := { dst := some 72, op := Op.load 5 (Operand.tmp 71), type := 5, pos := "ref.go:43", after := #[{ on := 10, ground := Ground.data }], guard := none }) (v := ?_) rfl (by decide) (by kernel_rfl) (by kernel_rfl) (by kernel_rfl) (by kernel_rfl) (by rfl) ?_ ?_
              rotate_left
              · intro W hW; have hcW := cellY cp hW; first | (go_simp; done) | (go_simp; with_reducible rfl)
              try simp only [Act.put, List.setIfInBounds_toArray, List.set_cons_zero, List.set_cons_succ]
              refine wpE_take (i := 12) (oi := { dst := some 73, op := Op.binOp BinOp.xor 5 (Operand.tmp 66) (Operand.tmp 72) 5, type := 5, pos := "ref.go:43", after := #[{ on := 5, ground := Ground.data }, { on := 11, ground := Ground.data }], guard := none }) (v := ?_) rfl (by decide) (by kernel_rfl) (by kernel_rfl) (by kernel_rfl) (by kernel_rfl) (by rfl) ?_ ?_
              rotate_left
              · intro W hW; first | (go_simp; done) | (go_simp; with_reducible rfl)
              try simp only [Act.put, List.setIfInBounds_toArray, List.set_cons_zero, List.set_cons_succ]
              refine wpE_take (i := 13) (oi := { dst := some 74, op := Op.indexAddr 22 (Operand.tmp 61) (Operand.tmp 62), type := 0, pos := "ref.go:43", after := #[{ on := 0, ground := Ground.data }, { on := 1, ground := Ground.data }, { on := 0, ground := Ground.phase }, { on := 1, ground := Ground.phase }, { on := 2, ground := Ground.phase }, { on := 3, ground := Ground.phase }, { on := 4, ground := Ground.phase }, { on := 5, ground := Ground.phase }, { on := 6, ground := Ground.phase }, { on := 7, ground := Ground.phase }, { on := 8, ground := Ground.phase }, { on := 9, ground := Ground.phase }, { on := 10, ground := Ground.phase }, { on := 11, ground := Ground.phase }, { on := 12, ground := Ground.phase }], guard := none }) (v := ?_) rfl (by decide) (by kernel_rfl) (by kernel_rfl) (by kernel_rfl) (by kernel_rfl) (by rfl) ?_ ?_
              rotate_left
              · intro W hW; first | (go_simp; done) | (go_simp; with_reducible rfl)
              try simp only [Act.put, List.setIfInBounds_toArray, List.set_cons_zero, List.set_cons_succ]
              refine wpE_last (o := { dst := none, op := Op.store 5 (Operand.tmp 74) (Operand.tmp 73), type := 0, pos := "ref.go:43", after := #[{ on := 13, ground := Ground.data }, { on := 12, ground := Ground.data }, { on := 0, ground := Ground.phase }, { on := 1, ground := Ground.phase }, { on := 2, ground := Ground.phase }, { on := 3, ground := Ground.phase }, { on := 4, ground := Ground.phase }, { on := 5, ground := Ground.phase }, { on := 6, ground := Ground.phase }, { on := 7, ground := Ground.phase }, { on := 8, ground := Ground.phase }, { on := 9, ground := Ground.phase }, { on := 10, ground := Ground.phase }, { on := 11, ground := Ground.phase }, { on := 12, ground := Ground.phase }], guard := none }) (by kernel_rfl) (by kernel_rfl) rfl (by rfl) fun K hK => ?_
              go_simp
              refine hK.out _ _ ?_
              clear hK K
              try simp only [Act.put, List.setIfInBounds_toArray, List.set_cons_zero, List.set_cons_succ]
              obtain ⟨hrow8, hb8⟩ := HS.out _ HX.out
              have hrow9 := hrow8.drew
              have hb9 := hb8.drew
              go_wp2
              go_roundw
              case rel => exact ⟨K + 1, by omega, by go_num, hrow9, hb9⟩
              case measure => simp [intOf]; omega
            · have hKe : K = r := by omega
              rw [hKe] at hrow6
              have hd6 : decide ((K : Int) < (r : Int)) = false := decide_eq_false (by omega)
              have hKI : (r : Int) ≤ (K : Int) := by omega
              have hNs : Rd wr (.slice (some ⟨g5, 0, none⟩) 200 cap5) (xhP (bsP (abN r P b) 200) P I r) := by
                have h3 : NewI .u8 5 V (.slice (some ⟨g5, 0, none⟩) (bI (xhP (bsP (abN r P b) 200) P I r)).length cap5) (bI (xhP (bsP (abN r P b) 200) P I r)) wr := hrow6.new hg5 hb6
                have h4 := h3.toB.rd
                rw [bI_length, xhP_length] at h4
                exact h4
              have HI2 : Hid ((b + 1) * r = I + r) := by
                show (b + 1) * r = I + r
                rw [Nat.add_mul, Nat.one_mul, ← HI.out]
              have HE : Hid (rdsF (stF (xhP (bsP (abN r P b) 200) P I r)) 24 = abN r P (b + 1)) := by
                show _ = rdsF (stF (xhP (bsP (abN r P b) 200) P (b * r) r)) 24
                rw [← HI.out]
              have hbV := stepB hbT hb6
              clear hKe hrow6 hb6 hK hKlt
              go_wp2_with fail
              refine (state_any _ _ (xhP_length _ _ _ _) _ hNs).mono ?_
              rintro e w7 ⟨v7, rfl, hN7⟩
              have hb7 := stepB hbV hN7.2
              clear hNs hbV
              go_wp2_with fail
              refine (fast_any _ _ (stF_lt _) _ hN7.rd).mono ?_
              rintro e w8 ⟨v8, rfl, hN8⟩
              rw [HE.out] at hN8
              have hT8 : AtI 65 W2 (.slice (some ⟨w.heap.size, 0, none⟩) 25 25) v8 (abN r P (b + 1)) w8 := .inr (hN8.from hb7)
              clear hN7 hN8 hb7
              have wr2 : IntKind.i64.wrap ((I : Int) + (r : Int)) = (I : Int) + (r : Int) := IntWalk.i64_in _ (by omega)
              go_wp2
              go_roundw
              case rel => exact ⟨b + 1, I + r, by show _ = _; rw [HI2.out], by omega, by go_num, hT8⟩
              case measure => simp [intOf]; omega
        · have hbe : b = nb := by
            have e1 := HI.out
            have e2 := HB.out
            rcases Nat.lt_or_ge b nb with h4 | h4
            · have h5 := Nat.mul_le_mul_right r (show b + 1 ≤ nb from h4)
              rw [Nat.add_mul, Nat.one_mul] at h5
              omega
            · omega
          rw [hbe] at hT
          have hd5 : decide ((I : Int) < (L : Int)) = false := decide_eq_false (by omega)
          have hII : (L : Int) ≤ (I : Int) := by omega
          have hbT := stepB hb0 hT.b
          have hR := hT.rd
          rw [HPP.out, HNB.out] at hR
          clear hT hbe hIL
          go_wp2
          go_ret
          exact ⟨_, rfl, hR, hbT⟩
end Go.Proofs.YtlcnepnappfjeaaDoor
