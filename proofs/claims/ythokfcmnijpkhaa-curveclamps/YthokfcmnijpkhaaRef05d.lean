/- What the document's own sum, opposite, difference and product are: contracts of the reference of layer 5. -/
import Derived.Test.YthokfcmnijpkhaaRef05c
import Derived.Test.YthokfcmnijpkhaaFMath2
import Derived.Test.YthokfcmnijpkhaaRegE
namespace Go.Proofs.Ythokfcmnijpkhaa
open Go.ChangeShapes Go.WideShapes Go.ChangeAt Go.RowKit
set_option linter.unusedSimpArgs false
set_option linter.unusedVariables false

theorem fdL_cells {w : World} {v : Value} {x : Nat} (h : RdI .i64 w v (fdL x)) : ∃ b off cap, v = .slice (some ⟨b, off, none⟩) 32 cap ∧ 32 ≤ cap ∧ b < w.heap.size ∧ ∀ i, i < 32 → w.cell? ⟨b, off + i, none⟩ = some (.int .i64 ((dg (x % pN) i : Nat) : Int)) := by
  obtain ⟨b, off, cap, rfl, h1, h2, h3, h4⟩ := h.cells (nI_ne (by rw [← List.length_pos_iff, dgN_length]; omega))
  rw [fdL_length] at h1 h4 ⊢
  exact ⟨b, off, cap, rfl, h1, h3, fun i hi => by rw [h4 i hi, fdL, nI_get, dgN_get _ _ _ hi]⟩

set_option maxRecDepth 100000 in
set_option maxHeartbeats 1000000 in
theorem addR_any (va vb : Value) (x y : Nat) (w : World) (ha : RdI .i64 w va (fdL x)) (hb : RdI .i64 w vb (fdL y)) :
    Calls Try.prog 23 #[va, vb] w fun e w' => ∃ r, e = .returned r ∧ RdI .i64 w' r (fdL (x + y)) ∧ Below w.heap.size w w' := by
  obtain ⟨ti, hti, hz0, hz1, hz2⟩ := info_parts infoI
  obtain ⟨ba, oa, ca, rfl, -, hla, hca⟩ := fdL_cells ha
  obtain ⟨bb, ob, cb, rfl, -, hlb, hcb⟩ := fdL_cells hb
  have HA : Hid _ := hca
  have HB : Hid _ := hcb
  clear ha hb hca hcb
  go_enter Try.func23, Try.ntmps23
  go_wp2_with (at_make; go_must (refine wpList_make_full _ rfl _ _ 41 rfl w.heap.size 3 ti _ 1 Try.underlying41 hti hz0 hz1 _ _ _ _ 32 rfl rfl rfl rfl (by rw [hz2]; omega) (by unfold maxLen; omega) (Nat.le_refl _) ?_))
  intro w1 hown hgr
  have hN1 := NewI.made hown hgr
  rw [← nI_zeros, ← layF_zero (fun j => dg (x % pN) j + dg (y % pN) j)] at hN1
  clear hown hgr
  go_wp2
  go_loopw [6] (fun iv wx => ∃ i : Nat, i ≤ 32 ∧ iv = .int .i64 (i : Int) ∧ NewI .i64 3 w (.slice (some ⟨w.heap.size, 0, none⟩) 32 32) (nI (layF (fun j => dg (x % pN) j + dg (y % pN) j) 32 i)) wx) (fun iv _ => 32 - (intOf iv).toNat)
  case atStart => exact ⟨0, by omega, rfl, hN1⟩
  case round =>
    obtain ⟨i, hi, rfl, hN⟩ := hrel
    clear hN1
    by_cases hl : i < 32
    · have hd : decide ((i : Int) < 32) = true := decide_eq_true (by omega)
      have hiI : (i : Int) < 32 := by omega
      have hi2 : (i : Int).toNat = i := by omega
      have hb := hN.2
      have c1 : wr.cell? ⟨ba, oa + i, none⟩ = some (.int .i64 ((dg (x % pN) i : Nat) : Int)) := by
        rw [hb.cell (p := ⟨ba, oa + i, none⟩) hla]
        exact HA.out i hl
      have c2 : wr.cell? ⟨bb, ob + i, none⟩ = some (.int .i64 ((dg (y % pN) i : Nat) : Int)) := by
        rw [hb.cell (p := ⟨bb, ob + i, none⟩) hlb]
        exact HB.out i hl
      obtain ⟨g, c, ev, -, -, k1, k2, k3⟩ := hN.at (j := i) (by rw [nI_length, layF_length _ _ _ hi]; exact hl)
      simp only [Value.slice.injEq, Option.some.injEq, Addr.mk.injEq, and_true, true_and] at ev
      obtain ⟨rfl, -, rfl⟩ := ev
      have k4 := k3 ((dg (x % pN) i + dg (y % pN) i : Nat) : Int)
      rw [nI_set, layF_next (fun j => dg (x % pN) j + dg (y % pN) j) 32 i hl] at k4
      have h1 := dg_lt (x % pN) i
      have h2 := dg_lt (y % pN) i
      have HK : Hid _ := k4
      generalize (nI (layF (fun j => dg (x % pN) j + dg (y % pN) j) 32 i)).getD i 0 = z at k1
      generalize dg (x % pN) i = p at c1 HK h1
      generalize dg (y % pN) i = q at c2 HK h2
      have es : IntKind.i64.wrap ((p : Int) + (q : Int)) = ((p + q : Nat) : Int) := by rw [IntWalk.i64_in _ (by omega)]; omega
      clear hN k3 k4 h1 h2
      go_wp2
      go_region
      go_wp2
      go_roundw
      case rel => exact ⟨i + 1, by omega, by go_num, NewI.drew HK.out⟩
      case measure => simp [intOf]; omega
    · have hie : i = 32 := by omega
      subst hie
      rw [layF_full] at hN
      have hR := hN.rd
      have hb2 := hN.2
      have HBd : Hid (∀ t ∈ (List.range 32).map fun j => dg (x % pN) j + dg (y % pN) j, t ≤ 1099511627776) := by
        intro t htm
        obtain ⟨j, -, rfl⟩ := List.mem_map.1 htm
        have h1 := dg_lt (x % pN) j
        have h2 := dg_lt (y % pN) j
        show dg (x % pN) j + dg (y % pN) j ≤ _
        omega
      clear hN
      go_wp2_with fail
      refine (modR_any _ _ HBd.out (by simp) _ hR).mono ?_
      rintro e w3 ⟨r3, rfl, hR3, hB3⟩
      go_wp2
      go_ret
      refine ⟨_, rfl, ?_, stepB hb2 hB3⟩
      unfold fdL at hR3 ⊢
      rwa [add_dv] at hR3

set_option maxRecDepth 100000 in
set_option maxHeartbeats 2000000 in
theorem negR_any (va : Value) (x : Nat) (w : World) (ha : RdI .i64 w va (fdL x)) :
    Calls Try.prog 38 #[va] w fun e w' => ∃ r, e = .returned r ∧ RdI .i64 w' r (fdL (pN - x % pN)) ∧ Below w.heap.size w w' := by
  obtain ⟨ti, hti, hz0, hz1, hz2⟩ := info_parts infoI
  obtain ⟨ba, oa, ca, rfl, -, hla, hca⟩ := fdL_cells ha
  have HX : Hid (x % pN < pN) := Nat.mod_lt _ pN_pos
  generalize x % pN = X at hca HX
  have HA : Hid _ := hca
  clear ha hca
  go_enter Try.func38, Try.ntmps38
  go_wp2_with (at_make; go_must (refine wpList_make_full _ rfl _ _ 41 rfl w.heap.size 3 ti _ 1 Try.underlying41 hti hz0 hz1 _ _ _ _ 32 rfl rfl rfl rfl (by rw [hz2]; omega) (by unfold maxLen; omega) (Nat.le_refl _) ?_))
  intro w1 hown hgr
  have hN1 := NewI.made hown hgr
  rw [← nI_zeros] at hN1
  clear hown hgr
  go_wp2
  go_loopw [4, 5] (fun cv iv wx => ∃ (i c : Nat) (l : List Nat), i ≤ 32 ∧ c ≤ 1 ∧ iv = .int .i64 (i : Int) ∧ cv = .int .i64 (c : Int) ∧ Hid (l.length = i) ∧ Hid (∀ t ∈ l, t < 256) ∧ Hid (dv l + X % 256 ^ i = pN % 256 ^ i + c * 256 ^ i) ∧ NewI .i64 3 w (.slice (some ⟨w.heap.size, 0, none⟩) 32 32) (nI (l ++ List.replicate (32 - i) 0)) wx) (fun _ iv _ => 32 - (intOf iv).toNat)
  case atStart => exact ⟨0, 0, [], by omega, by omega, rfl, rfl, rfl, (fun t h => by cases h), (by show _ = _; rw [Nat.pow_zero, Nat.mod_one, Nat.mod_one]; rfl), hN1⟩
  case round =>
    obtain ⟨i, c, l, hi, hc, rfl, rfl, HL, HT, HD, hN⟩ := hrel
    clear hN1
    by_cases hl : i < 32
    · have hd : decide ((i : Int) < 32) = true := decide_eq_true (by omega)
      have hiI : (i : Int) < 32 := by omega
      have c1 : wr.cell? ⟨ba, oa + i, none⟩ = some (.int .i64 ((dg X i : Nat) : Int)) := by
        rw [hN.2.cell (p := ⟨ba, oa + i, none⟩) hla]
        exact HA.out i hl
      obtain ⟨g, cc, ev, -, -, k1, k2, k3⟩ := hN.at (j := i) (by rw [nI_length, List.length_append, List.length_replicate, HL.out]; omega)
      simp only [Value.slice.injEq, Option.some.injEq, Addr.mk.injEq, and_true, true_and] at ev
      obtain ⟨rfl, -, rfl⟩ := ev
      have HK : Hid (∀ t : Nat, NewI .i64 3 w (.slice (some ⟨w.heap.size, 0, none⟩) 32 32) (nI ((l ++ [t]) ++ List.replicate (32 - (i + 1)) 0)) (wr.setCell ⟨w.heap.size, i, none⟩ (.int .i64 (t : Int)))) := by
        intro t
        have k4 := k3 (t : Int)
        rw [nI_set] at k4
        have e : (l ++ List.replicate (32 - i) 0).set i t = (l ++ [t]) ++ List.replicate (32 - (i + 1)) 0 := by
          obtain ⟨k, hk⟩ : ∃ k, 32 - i = k + 1 := ⟨32 - i - 1, by omega⟩
          rw [List.set_append_right _ _ (by rw [HL.out]; exact Nat.le_refl _), HL.out, Nat.sub_self, hk, List.replicate_succ, List.set_cons_zero, show 32 - (i + 1) = k by omega]
          simp
        rw [e] at k4
        exact k4
      generalize (nI (l ++ List.replicate (32 - i) 0)).getD i 0 = z at k1
      obtain ⟨P, hP⟩ : ∃ P : Nat, P = dg pN i := ⟨_, rfl⟩
      have hPd := hP.trans (p_digit i hl)
      have h1 := dg_lt X i
      have hP2 : P < 256 := by rw [hP]; exact dg_lt _ _
      have HS : Hid (∀ (t c' : Nat) (V I C : Int), V = t → I = i + 1 → C = c' → t < 256 → t + dg X i + c = P + 256 * c' → c' ≤ 1 → ∃ (i' c'' : Nat) (l' : List Nat), i' ≤ 32 ∧ c'' ≤ 1 ∧ Value.int .i64 I = .int .i64 (i' : Int) ∧ Value.int .i64 C = .int .i64 (c'' : Int) ∧ Hid (l'.length = i') ∧ Hid (∀ t ∈ l', t < 256) ∧ Hid (dv l' + X % 256 ^ i' = pN % 256 ^ i' + c'' * 256 ^ i') ∧ NewI .i64 3 w (.slice (some ⟨w.heap.size, 0, none⟩) 32 32) (nI (l' ++ List.replicate (32 - i') 0)) (wr.setCell ⟨w.heap.size, i, none⟩ (.int .i64 V))) := by
        intro t c' V I C hV hI hCC ht he hc'
        subst hV hI hCC
        refine ⟨i + 1, c', l ++ [t], by omega, hc', by go_num, rfl, ?_, ?_, ?_, HK.out t⟩
        · show _ = _
          rw [List.length_append, HL.out]
          rfl
        · intro u hu
          rcases List.mem_append.1 hu with h | h
          · exact HT.out u h
          · rw [List.mem_singleton.1 h]
            exact ht
        · refine neg_step X i c c' t (dv l) _ (by rw [← hP]; exact he) HD.out ?_
          rw [dv_snoc, HL.out]
      generalize dg X i = q at c1 HS h1
      clear hN k3 HK HD HT HL hP
      have hb256 : q ≤ 255 := by omega
      by_cases h0 : i = 0
      · have hP3 : P = 237 := by rw [hPd, if_pos h0]
        clear hPd
        subst hP3
        subst h0
        rw [Nat.add_zero] at c1
        by_cases hneg : (237 : Int) - (q : Int) - (c : Int) < 0
        · have hdn : decide ((237 : Int) - (q : Int) - (c : Int) < 0) = true := decide_eq_true hneg
          have HB5 : Hid _ := hb256
          go_wp2
          go_roundw
          case rel => exact HS.out (237 + 256 - q - c) 1 _ _ _ (by omega) (by omega) (by omega) (by omega) (by omega) (by omega)
          case measure => simp [intOf] <;> omega
        · have hdn : decide ((237 : Int) - (q : Int) - (c : Int) < 0) = false := decide_eq_false hneg
          have hnn : (0 : Int) ≤ (237 : Int) - (q : Int) - (c : Int) := by omega
          go_wp2
          go_roundw
          case rel => exact HS.out (237 - q - c) 0 _ _ _ (by omega) (by omega) (by omega) (by omega) (by omega) (by omega)
          case measure => simp [intOf] <;> omega
      · have n0 : ((i : Int) == 0) = false := by simp; omega
        by_cases h31 : i = 31
        · have hP3 : P = 127 := by rw [hPd, if_neg h0, if_pos h31]
          clear hPd n0 h0
          subst hP3
          subst h31
          by_cases hneg : (127 : Int) - (q : Int) - (c : Int) < 0
          · have hdn : decide ((127 : Int) - (q : Int) - (c : Int) < 0) = true := decide_eq_true hneg
            have HB5 : Hid _ := hb256
            go_wp2
            go_roundw
            case rel => exact HS.out (127 + 256 - q - c) 1 _ _ _ (by omega) (by omega) (by omega) (by omega) (by omega) (by omega)
            case measure => simp [intOf] <;> omega
          · have hdn : decide ((127 : Int) - (q : Int) - (c : Int) < 0) = false := decide_eq_false hneg
            have hnn : (0 : Int) ≤ (127 : Int) - (q : Int) - (c : Int) := by omega
            go_wp2
            go_roundw
            case rel => exact HS.out (127 - q - c) 0 _ _ _ (by omega) (by omega) (by omega) (by omega) (by omega) (by omega)
            case measure => simp [intOf] <;> omega
        · have n31 : ((i : Int) == 31) = false := by simp; omega
          have hP3 : P = 255 := by rw [hPd, if_neg h0, if_neg h31]
          clear hPd
          subst hP3
          by_cases hneg : (255 : Int) - (q : Int) - (c : Int) < 0
          · have hdn : decide ((255 : Int) - (q : Int) - (c : Int) < 0) = true := decide_eq_true hneg
            have HB5 : Hid _ := hb256
            go_wp2
            go_roundw
            case rel => exact HS.out (255 + 256 - q - c) 1 _ _ _ (by omega) (by omega) (by omega) (by omega) (by omega) (by omega)
            case measure => simp [intOf] <;> omega
          · have hdn : decide ((255 : Int) - (q : Int) - (c : Int) < 0) = false := decide_eq_false hneg
            have hnn : (0 : Int) ≤ (255 : Int) - (q : Int) - (c : Int) := by omega
            go_wp2
            go_roundw
            case rel => exact HS.out (255 - q - c) 0 _ _ _ (by omega) (by omega) (by omega) (by omega) (by omega) (by omega)
            case measure => simp [intOf] <;> omega
    · have hie : i = 32 := by omega
      subst hie
      rw [Nat.sub_self, List.replicate_zero, List.append_nil] at hN
      have hR := hN.rd
      have hb2 := hN.2
      have HV : Hid (dv l = pN - X) := neg_end X (dv l) c HX.out (by rw [← HL.out]; exact dv_lt l HT.out) HD.out
      have HBd : Hid (∀ t ∈ l, t ≤ 1099511627776) := fun t htm => by
        have := HT.out t htm
        omega
      clear hN HD
      go_wp2_with fail
      refine (modR_any _ l HBd.out (by rw [HL.out]; omega) _ hR).mono ?_
      rintro e w3 ⟨r3, rfl, hR3, hB3⟩
      rw [HV.out] at hR3
      go_wp2
      go_ret
      exact ⟨_, rfl, hR3, stepB hb2 hB3⟩

set_option maxHeartbeats 400000 in
theorem subR_any (va vb : Value) (x y : Nat) (w : World) (ha : RdI .i64 w va (fdL x)) (hb : RdI .i64 w vb (fdL y)) :
    Calls Try.prog 24 #[va, vb] w fun e w' => ∃ r, e = .returned r ∧ RdI .i64 w' r (fdL (x + (pN - y % pN))) ∧ Below w.heap.size w w' := by
  go_enter Try.func24, Try.ntmps24
  go_wp2_with fail
  refine (negR_any _ y _ hb).mono ?_
  rintro e w2 ⟨r2, rfl, hR2, hB2⟩
  have ha2 := ha.kept hB2
  go_wp2_with fail
  refine (addR_any _ _ x (pN - y % pN) _ ha2 hR2).mono ?_
  rintro e w3 ⟨r3, rfl, hR3, hB3⟩
  go_wp2
  go_ret
  exact ⟨_, rfl, hR3, stepB hB2 hB3⟩
end Go.Proofs.Ythokfcmnijpkhaa
