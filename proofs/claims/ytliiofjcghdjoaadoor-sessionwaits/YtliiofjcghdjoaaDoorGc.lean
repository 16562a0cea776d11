/- What functions of the program, or of the reference, answer: contracts; several texts in one. -/
import Derived.Test.YtliiofjcghdjoaaDoorGb
import Derived.Test.YtliiofjcghdjoaaDoorBase
import Derived.Test.YtliiofjcghdjoaaDoorGa
import Derived.Deep.QuietTactic
import Derived.BigQuiet
import Derived.WalkSpells
import Derived.RegionTactic
import Derived.BigRegion
import Derived.Deep.DeepCutAuto
import Derived.OwnWalk

/- What the document's own rest by 2^130 - 5 is: a contract of the reference of layer 8. -/
namespace Go.Proofs.YtliiofjcghdjoaaDoor
open Go.ChangeShapes Go.WideShapes Go.ChangeAt Go.RowKit
set_option linter.unusedSimpArgs false
set_option linter.unusedVariables false

/-- The number whose digits a slice holds. -/
def vAt8 (w : World) (v : Value) : Nat :=
  match v with
  | .slice (some ad) n _ => dv ((List.range n).map fun i => match w.cell? ⟨ad.block, ad.off + i, none⟩ with
    | some (.int _ x) => x.toNat
    | _ => 0)
  | _ => 0
theorem vAt8_eq {w : World} {v : Value} {l : List Nat} (h : RdI .i64 w v (nI l)) : vAt8 w v = dv l := by
  obtain ⟨a, cap, rfl, h2, h3, h4, h5⟩ := h
  rw [nI_length] at h2 h5 ⊢
  rcases h5 with h5 | ⟨b, off, rfl, hc⟩
  · have hl : l = [] := by cases l with | nil => rfl | cons x l => simp [nI] at h5
    subst hl
    cases a <;> rfl
  · have e : ((List.range l.length).map fun i => match w.cell? ⟨b, off + i, none⟩ with
      | some (.int _ x) => x.toNat
      | _ => 0) = l := by
      refine List.ext_getElem (by simp) fun i h1 h2 => ?_
      simp only [List.getElem_map, List.getElem_range]
      rw [hc i h2, nI_get]
      simp [h2]
    show dv ((List.range l.length).map fun i => match w.cell? ⟨b, off + i, none⟩ with
      | some (.int _ x) => x.toNat
      | _ => 0) = dv l
    rw [e]
theorem NewI.from8 {k : IntKind} {e : TypeId} {w wr w2 : World} {v : Value} {l : List Int} (h : NewI k e wr v l w2) (hb : Below w.heap.size w wr) : NewI k e w v l w2 := ⟨own_mono h.1 hb.size, hb.trans (h.2.mono hb.size)⟩

set_option maxRecDepth 100000 in
set_option maxHeartbeats 4000000 in
theorem mod8_any (v : Value) (a : List Nat) (hB : ∀ x ∈ a, x ≤ 1099511627776) (hl : a.length ≤ 999999999000) (w : World) (hr : RdI .i64 w v (nI a)) :
    Calls Tryd.prog 75 #[v] w fun e w' => ∃ r L, e = .returned r ∧ 18 ≤ L ∧ L ≤ a.length + 18 ∧ NewI .i64 3 w r (nI (dgN (dv a % p8) L)) w' := by
  obtain ⟨ti, hti, hz0, hz1, hz2⟩ := info_parts infoI8
  have hx : dv a < 256 ^ (a.length + 18) := by
    have h1 := dv_le _ a hB
    have h2 : 0 < 256 ^ a.length := Nat.pow_pos (by decide)
    rw [Nat.pow_add]
    generalize 256 ^ a.length = q at h1 h2 ⊢
    omega
  obtain ⟨B, hBe⟩ : ∃ B, B = a.length + 18 := ⟨_, rfl⟩
  rw [← hBe] at hx ⊢
  have HX : Hid (dv a < 256 ^ B) := hx
  have hBb : B ≤ 999999999018 := by omega
  clear hx
  go_enter Tryd.func75, Tryd.ntmps75
  go_wp2_with fail
  refine (carry8_any _ a 18 18 rfl (by omega) hB (by omega) _ hr).mono ?_
  rintro e w1 ⟨v1, L1, rfl, hL1, h181, hx1, hmin, hN1⟩
  have hL1b := hmin B (by omega) (by omega) HX.out
  have HX1 : Hid (dv a < 256 ^ L1) := hx1
  clear hmin hx1 hL1 hB hl hr HX hBe
  go_wp2
  go_loopw [0] (fun v wr => ∃ x L : Nat, 18 ≤ L ∧ L ≤ B ∧ Hid (x < 256 ^ L) ∧ Hid (x % p8 = dv a % p8) ∧ NewI .i64 3 w v (nI (dgN x L)) wr) (fun v wr => vAt8 wr v)
  case atStart => exact ⟨dv a, L1, h181, hL1b, HX1, rfl, hN1⟩
  case round =>
    obtain ⟨x, L, h18, hL, Hx, Hm, hN⟩ := hrel
    rename World => WA
    clear hN1 HX1 hL1b h181
    have HLM : Hid ((nI (dgN x L)).length = L) := by show _ = _; rw [nI_length, dgN_length]
    obtain ⟨gb, gc, rfl, hgb, hglt, hcm, hcx, hcells, -, -⟩ := hN.all (by rw [← List.length_pos_iff, HLM.out]; omega)
    have HV : Hid (vAt8 WA (.slice (some ⟨gb, 0, none⟩) (nI (dgN x L)).length gc) = x) := by show _ = _; rw [vAt8_eq hN.rd, dv_dgN, Nat.mod_eq_of_lt Hx.out]
    have HC : Hid (∀ i, i < L → WA.cell? ⟨gb, i, none⟩ = some (.int .i64 ((dg x i : Nat) : Int))) := fun i hi => by rw [hcells i (by rw [HLM.out]; exact hi), nI_get, dgN_get _ _ _ hi]
    rw [HLM.out] at hN hcm HV ⊢
    unfold maxLen at hcx
    have HN0 : Hid _ := hN
    have HB2 : Hid _ := hN.2
    have hc16 := HC.out 16 (by omega)
    have hL17 : 17 < L := by omega
    have hL17I : (17 : Int) < (L : Int) := by omega
    have hL16I : (16 : Int) < (L : Int) := by omega
    have hL0I : (0 : Int) < (L : Int) := by omega
    have H0 : Hid (Value.bool (decide ((3 : Int) < ((dg x 16 : Nat) : Int))) = .bool (decide (t8 ≤ x % 256 ^ 17))) := by
      show _ = _
      refine congrArg Value.bool (decide_eq_decide.2 ?_)
      rw [← high8_start]
      omega
    clear hcells hN
    go_wp2
    go_loop [3, 4] (fun h iv => ∃ i : Nat, iv = .int .i64 (i : Int) ∧ 17 ≤ i ∧ i ≤ L ∧ h = .bool (decide (t8 ≤ x % 256 ^ i))) (fun _ iv => L - (intOf iv).toNat)
    case atStart => exact ⟨17, rfl, by omega, by omega, H0.out⟩
    case round =>
      obtain ⟨i, rfl, hi17, hiL, rfl⟩ := hrel
      by_cases hilt : i < L
      · have hdi : decide ((i : Int) < (L : Int)) = true := decide_eq_true (by omega)
        have hiI : (i : Int) < L := by omega
        have hci := HC.out i hilt
        have HS : Hid _ := high8_step x i hi17
        clear H0 hc16
        by_cases hh : t8 ≤ x % 256 ^ i
        · rw [decide_eq_true hh]
          have HE : Hid (decide (t8 ≤ x % 256 ^ (i + 1)) = true) := decide_eq_true (HS.out.2 (.inl hh))
          clear hh HS
          generalize dg x i = q at hci
          go_wp2
          go_round
          case rel => exact ⟨i + 1, by go_num, by omega, by omega, by rw [HE.out]⟩
          case measure => simp [intOf]; omega
        · rw [decide_eq_false hh]
          by_cases hq : 0 < dg x i
          · have HE : Hid (decide (t8 ≤ x % 256 ^ (i + 1)) = true) := decide_eq_true (HS.out.2 (.inr hq))
            have hdq : decide ((0 : Int) < ((dg x i : Nat) : Int)) = true := decide_eq_true (by omega)
            have hqI : (0 : Int) < ((dg x i : Nat) : Int) := by omega
            clear hh HS
            generalize dg x i = q at hci hq hdq hqI
            go_wp2
            go_round
            case rel => exact ⟨i + 1, by go_num, by omega, by omega, by rw [HE.out]⟩
            case measure => simp [intOf]; omega
          · have HE : Hid (decide (t8 ≤ x % 256 ^ (i + 1)) = false) := decide_eq_false fun h => (HS.out.1 h).elim hh hq
            have hq0 : dg x i = 0 := by omega
            rw [hq0] at hci
            clear hh HS hq hq0
            go_wp2
            go_round
            case rel => exact ⟨i + 1, by go_num, by omega, by omega, by rw [HE.out]⟩
            case measure => simp [intOf]; omega
      · have hie : i = L := by omega
        have hdi : decide ((i : Int) < (L : Int)) = false := decide_eq_false (by omega)
        have hiI : (L : Int) ≤ i := by omega
        have e1 : decide (t8 ≤ x % 256 ^ i) = decide (t8 ≤ x) := by
          rw [hie, Nat.mod_eq_of_lt Hx.out]
        rw [e1]
        clear e1 hie H0
        by_cases hsm : x < t8
        · have hno : ¬ t8 ≤ x := by omega
          rw [decide_eq_false hno]
          have HSM : Hid _ := hsm
          clear hno hsm
          have hc0 := HC.out 0 (by omega)
          by_cases h3 : dg x 16 = 3
          · rw [h3] at hc16
            by_cases h251 : 251 ≤ dg x 0
            · have hd0 : decide ((251 : Int) ≤ ((dg x 0 : Nat) : Int)) = true := decide_eq_true (by omega)
              have hd0I : (251 : Int) ≤ ((dg x 0 : Nat) : Int) := by omega
              have H3 : Hid _ := h3
              have H251 : Hid _ := h251
              obtain ⟨q0, hq0⟩ : ∃ q0, Hid (q0 = dg x 0) := ⟨_, rfl⟩
              rw [← hq0.out] at hc0 hd0 hd0I
              clear h3 h251
              go_wp2
              go_loop [9, 10] (fun al iv => ∃ (i : Nat) (b : Bool), iv = .int .i64 (i : Int) ∧ 1 ≤ i ∧ i ≤ 16 ∧ al = .bool b ∧ Hid (b = true ↔ ∀ j, j < i → 1 ≤ j → dg x j = 255)) (fun _ iv => 16 - (intOf iv).toNat)
              case atStart => exact ⟨1, true, rfl, by omega, by omega, rfl, ⟨fun _ j h1 h2 => by omega, fun _ => rfl⟩⟩
              case round =>
                obtain ⟨j, b, rfl, hj1, hj16, rfl, HB⟩ := hrel
                clear hdi hiI
                by_cases hl : j < 16
                · have hdi : decide ((j : Int) < 16) = true := decide_eq_true (by omega)
                  have hiI : (j : Int) < 16 := by omega
                  have hiL2 : (j : Int) < (L : Int) := by omega
                  have hcj := HC.out j (by omega)
                  cases b with
                  | false =>
                    have HE : Hid (false = true ↔ ∀ i, i < j + 1 → 1 ≤ i → dg x i = 255) := ⟨fun h => (by simp at h), fun h => HB.out.2 fun i h1 h2 => h i (by omega) h2⟩
                    clear HB hcj
                    go_wp2
                    go_round
                    case rel => exact ⟨j + 1, false, by go_num, by omega, by omega, rfl, HE⟩
                    case measure => simp [intOf]; omega
                  | true =>
                    by_cases hq : dg x j = 255
                    · rw [hq] at hcj
                      have HE : Hid (true = true ↔ ∀ i, i < j + 1 → 1 ≤ i → dg x i = 255) := ⟨fun _ i h1 h2 => by
                        by_cases h : i = j
                        · rw [h]; exact hq
                        · exact HB.out.1 rfl i (by omega) h2, fun _ => rfl⟩
                      clear HB hq
                      go_wp2
                      go_round
                      case rel => exact ⟨j + 1, true, by go_num, by omega, by omega, rfl, HE⟩
                      case measure => simp [intOf]; omega
                    · have HE : Hid (false = true ↔ ∀ i, i < j + 1 → 1 ≤ i → dg x i = 255) := ⟨fun h => (by simp at h), fun h => absurd (h j (by omega) hj1) hq⟩
                      have hne : (((dg x j : Nat) : Int) == 255) = false := by simp; omega
                      have hne2 : ¬ ((dg x j : Nat) : Int) = 255 := by omega
                      generalize dg x j = q at hcj hne hne2
                      clear HB hq
                      go_wp2
                      go_round
                      case rel => exact ⟨j + 1, false, by go_num, by omega, by omega, rfl, HE⟩
                      case measure => simp [intOf]; omega
                · have hj : j = 16 := by omega
                  subst hj
                  cases b with
                  | false =>
                    have HP : Hid (x < p8) := by
                      show _ < _
                      refine Nat.lt_of_not_le fun hp => ?_
                      have h : ∀ j, j < 16 → 1 ≤ j → dg x j = 255 := fun j h1 h2 => by
                        refine Decidable.byContradiction fun h3 => ?_
                        have := tail8_c x j HSM.out h2 h1 h3
                        omega
                      have := HB.out.2 h
                      simp at this
                    have HF : Hid (x = dv a % p8) := by show _ = _; rw [← Hm.out, Nat.mod_eq_of_lt HP.out]
                    go_wp2
                    go_ret
                    exact ⟨_, rfl, L, h18, hL, by rw [← HF.out]; exact HN0.out⟩
                  | true =>
                    have HP : Hid (p8 ≤ x) := tail8_d x HSM.out H3.out H251.out (HB.out.1 rfl)
                    obtain ⟨hs1, hs2⟩ := last8 x HP.out HSM.out
                    obtain ⟨d, hdd⟩ : ∃ d : Nat, d = x % p8 := ⟨_, rfl⟩
                    rw [← hdd] at hs1 hs2
                    have HF : Hid (d = dv a % p8) := by show _ = _; rw [← Hm.out, hdd]
                    have ed : IntKind.i64.wrap ((q0 : Int) - 251) = (d : Int) := by
                      have := hq0.out
                      rw [IntWalk.i64_in _ (by omega)]
                      omega
                    clear hs1 hdd
                    go_wp2_with (at_make; go_must (refine wpList_make_full _ rfl _ _ 68 rfl _ 3 ti _ 1 Tryd.underlying68 hti hz0 hz1 _ _ _ _ 18 rfl rfl rfl rfl (by rw [hz2]; omega) (by unfold maxLen; omega) (Nat.le_refl _) ?_))
                    intro w6 hown hgr
                    have hN6 := NewI.made hown hgr
                    obtain ⟨g6, c6, ev, -, -, h60, h61, h62⟩ := hN6.at (j := 0) (by simp)
                    simp only [Value.slice.injEq, Option.some.injEq, Addr.mk.injEq, and_true, true_and] at ev
                    obtain ⟨rfl, -, rfl⟩ := ev
                    have h63 := h62 (d : Int)
                    have hc06 : w6.cell? ⟨gb, 0, none⟩ = some (.int .i64 (q0 : Int)) := by
                      rw [hN6.2.cell (p := ⟨gb, 0, none⟩) hglt]
                      exact hc0
                    have e9 : (List.replicate 18 (0 : Int)).set 0 (d : Int) = nI (dgN d 18) := by
                      rw [← small8 d hs2, ← nI_set, nI_zeros]
                    rw [e9] at h63
                    have HR6 : Hid _ := h63.from8 HB2.out
                    clear hown hgr hN6 h62 h63 e9 hc0 hc16
                    go_wp2
                    go_ret
                    exact ⟨_, 18, rfl, by omega, by omega, by rw [← HF.out]; exact HR6.out⟩
            · have HP : Hid (x < p8) := tail8_b x HSM.out (by omega)
              have HF : Hid (x = dv a % p8) := by show _ = _; rw [← Hm.out, Nat.mod_eq_of_lt HP.out]
              have hd0 : decide ((251 : Int) ≤ ((dg x 0 : Nat) : Int)) = false := decide_eq_false (by omega)
              have hd0I : ((dg x 0 : Nat) : Int) < 251 := by omega
              generalize dg x 0 = q0 at hc0 hd0 hd0I
              clear h3 h251
              go_wp2
              go_ret
              exact ⟨_, rfl, L, h18, hL, by rw [← HF.out]; exact HN0.out⟩
          · have HP : Hid (x < p8) := tail8_a x HSM.out h3
            have HF : Hid (x = dv a % p8) := by show _ = _; rw [← Hm.out, Nat.mod_eq_of_lt HP.out]
            have hne : (((dg x 16 : Nat) : Int) == 3) = false := by simp; omega
            have hne2 : ¬ ((dg x 16 : Nat) : Int) = 3 := by omega
            generalize dg x 16 = q at hc16 hne hne2
            clear h3
            go_wp2
            go_ret
            exact ⟨_, rfl, L, h18, hL, by rw [← HF.out]; exact HN0.out⟩
        · have HGE : Hid (t8 ≤ x) := show _ ≤ _ by omega
          rw [decide_eq_true HGE.out]
          clear hsm
          go_wp2_with (at_make; go_must (refine wpList_make_full _ rfl _ _ 68 rfl _ 3 ti _ 1 Tryd.underlying68 hti hz0 hz1 _ _ _ _ 17 rfl rfl rfl rfl (by rw [hz2]; omega) (by unfold maxLen; omega) (Nat.le_refl _) ?_))
          intro w3 hown hgr
          have hN3 := NewI.made hown hgr
          clear hown hgr
          go_wp2
          go_loopw [6] (fun iv wx => ∃ i : Nat, i ≤ 17 ∧ iv = .int .i64 (i : Int) ∧ NewI .i64 3 WA (.slice (some ⟨WA.heap.size, 0, none⟩) 17 17) (nI (dgN x i ++ List.replicate (17 - i) 0)) wx) (fun iv _ => 17 - (intOf iv).toNat)
          case atStart => exact ⟨0, by omega, rfl, by simpa [dgN, nI] using hN3⟩
          case round =>
            obtain ⟨i, hi, rfl, hNC⟩ := hrel
            rename World => WC
            clear hN3 hdi hiI
            by_cases hl : i < 17
            · have hdi : decide ((i : Int) < 17) = true := decide_eq_true (by omega)
              have hiI : (i : Int) < 17 := by omega
              have hiM2 : (i : Int) < L := by omega
              have hci : WC.cell? ⟨gb, i, none⟩ = some (.int .i64 ((dg x i : Nat) : Int)) := by
                rw [hNC.2.cell (p := ⟨gb, i, none⟩) hglt]
                exact HC.out i (by omega)
              obtain ⟨g, c, ev, -, -, k1, k2, k3⟩ := hNC.at (j := i) (by rw [nI_length, lay8_length _ _ _ (by omega)]; omega)
              simp only [Value.slice.injEq, Option.some.injEq, Addr.mk.injEq, and_true, true_and] at ev
              obtain ⟨rfl, -, rfl⟩ := ev
              have k4 := k3 ((dg x i : Nat) : Int)
              rw [nI_set, lay8_next x 17 i (by omega)] at k4
              generalize (nI (dgN x i ++ List.replicate (17 - i) 0)).getD i 0 = z at k1
              have HK4 : Hid _ := k4
              clear hc16
              generalize dg x i = q at hci HK4
              clear hNC k3 k4
              go_wp2
              go_roundw
              case rel => exact ⟨i + 1, by omega, by go_num, HK4.out⟩
              case measure => simp [intOf]; omega
            · have hie : i = 17 := by omega
              subst hie
              have hc16C : WC.cell? ⟨gb, 16, none⟩ = some (.int .i64 ((dg x 16 : Nat) : Int)) := by
                rw [hNC.2.cell (p := ⟨gb, 16, none⟩) hglt]
                exact hc16
              obtain ⟨g, c, ev, -, -, k1, k2, k3⟩ := hNC.at (j := 16) (by rw [nI_length, lay8_length _ _ _ (by omega)]; omega)
              simp only [Value.slice.injEq, Option.some.injEq, Addr.mk.injEq, and_true, true_and] at ev
              obtain ⟨rfl, -, rfl⟩ := ev
              have k4 := k3 ((dg x 16 % 4 : Nat) : Int)
              rw [nI_set] at k4
              have HF0 : Hid (Fd8 x 0 ((dgN x 17 ++ List.replicate (17 - 17) 0).set 16 (dg x 16 % 4))) := by
                have := Fd8.start x
                rw [Nat.sub_self, List.replicate_zero, List.append_nil]
                exact this
              have HO0 : Hid (((dgN x 17 ++ List.replicate (17 - 17) 0).set 16 (dg x 16 % 4)).length ≤ L) := by show _ ≤ _; rw [List.length_set, lay8_length _ _ _ (by omega)]; omega
              generalize (dgN x 17 ++ List.replicate (17 - 17) 0).set 16 (dg x 16 % 4) = o at k4 HF0 HO0
              have em : ((dg x 16 : Nat) : Int).tmod 4 = ((dg x 16 % 4 : Nat) : Int) := by rw [Int.tmod_eq_emod_of_nonneg (by omega)]; omega
              have hq4 : dg x 16 % 4 < 4 := Nat.mod_lt _ (by decide)
              have HK4 : Hid _ := k4
              generalize (nI (dgN x 17 ++ List.replicate (17 - 17) 0)).getD 16 0 = z at k1
              generalize dg x 16 % 4 = q at em HK4 hq4
              clear hc16
              generalize dg x 16 = q0 at hc16C em
              clear hNC k3 k4 hl
              go_wp2
              go_loopw [5, 7] (fun ov iv wx => ∃ (m : Nat) (o : List Nat), iv = .int .i64 ((m + 16 : Nat) : Int) ∧ m + 16 ≤ L ∧ Hid (o.length ≤ L) ∧ Hid (Fd8 x m o) ∧ NewI .i64 3 WA ov (nI o) wx) (fun _ iv _ => L - (intOf iv).toNat)
              case atStart => exact ⟨0, o, rfl, by omega, HO0, HF0, HK4.out⟩
              case round =>
                obtain ⟨m, o1, rfl, hm, HO1, HF1, hN1⟩ := hrel
                rename World => WD
                clear HK4 HF0 HO0 k1 k2 hc16C em
                obtain ⟨i, hi⟩ : ∃ i : Nat, i = m + 16 := ⟨_, rfl⟩
                rw [← hi]
                have HI : Hid (i = m + 16) := hi
                by_cases hl : i < L
                · clear hi
                  have hdi : decide ((i : Int) < (L : Int)) = true := decide_eq_true (by omega)
                  have hiI : (i : Int) < L := by omega
                  go_wp2
                  go_loopw [5] (fun ov wx => ∃ o : List Nat, Hid (o.length ≤ L) ∧ Hid (Fd8 x m o) ∧ NewI .i64 3 WA ov (nI o) wx) (fun v _ => i - sLen v)
                  case atStart => exact ⟨o1, HO1, HF1, hN1⟩
                  case round =>
                    obtain ⟨o2, HO2, HF2, hN2⟩ := hrel
                    rename World => WE
                    clear hN1 HF1 HO1
                    have hlen2 := HO2.out
                    have hlen3 := HF2.out.len
                    obtain ⟨g2, c2, rfl, hg2, -, hc2a, hc2b, hcells2, hfree2, hset2⟩ := hN2.all (by rw [← List.length_pos_iff, nI_length]; omega)
                    unfold maxLen at hc2b
                    rw [nI_length] at hN2 hc2a hset2 ⊢
                    by_cases hsh : o2.length < i
                    · have hd2 : decide ((o2.length : Int) < (i : Int)) = true := decide_eq_true (by omega)
                      have hsI : (o2.length : Int) < (i : Int) := by omega
                      have hL1 : RdI .i64 (WE.alloc (.cells #[.int .i64 0] 3)) (.slice (some ⟨WE.heap.size, 0, none⟩) 1 1) [0] := lit1I8 _
                      have hsb : o2.length + 1 ≤ 999999999018 := by omega
                      clear hset2 hcells2 hfree2
                      go_wp2_with (at_builtin; go_must (refine wpList_append_newI (k := .i64) (w := WA) rfl _ _ 68 rfl 3 Tryd.underlying68 8 infoI8 _ _ rfl (hN2.alloc _) _ _ rfl hL1 (by rw [nI_length]; simp; omega) (by rw [nI_length]; simp; omega) ?_))
                      intro v' w5 hN5 _
                      have e5 : nI o2 ++ [0] = nI (o2 ++ [0]) := by
                        rw [← nI_append]
                        rfl
                      rw [e5] at hN5
                      obtain ⟨a5, c5, rfl, -, -, -, -⟩ := id hN5.rd
                      have HL5 : Hid ((nI (o2 ++ [0])).length = o2.length + 1) := by show _ = _; rw [nI_length]; simp
                      rw [HL5.out] at hN5 ⊢
                      clear e5 hL1 hN2
                      go_wp2
                      go_roundw
                      case rel => exact ⟨_, _, _, _, _, _, _, _, ⟨o2 ++ [0], (show _ ≤ _ by simp; omega), HF2.out.app, hN5⟩, rfl⟩
                      case measure => simp [sLen]; omega
                    · have hd2 : decide ((o2.length : Int) < (i : Int)) = false := decide_eq_false (by omega)
                      have hsI : (i : Int) ≤ (o2.length : Int) := by omega
                      have hi := HI.out
                      have hmo : m < o2.length := by omega
                      have hmI : (m : Int) < (o2.length : Int) := by omega
                      have w16 : IntKind.i64.wrap ((i : Int) - 16) = (m : Int) := by rw [IntWalk.i64_in _ (by omega)]; omega
                      have w17 : IntKind.i64.wrap ((i : Int) + 1) = (i : Int) + 1 := IntWalk.i64_in _ (by omega)
                      have hc1 : WE.cell? ⟨gb, i, none⟩ = some (.int .i64 ((dg x i : Nat) : Int)) := by
                        rw [hN2.2.cell (p := ⟨gb, i, none⟩) hglt]
                        exact HC.out i hl
                      have k1 := hcells2 m (by rw [nI_length]; exact hmo)
                      rw [nI_get] at k1
                      have k2 := hfree2 m
                      have hzb := HF2.out.rest m (Nat.le_refl _)
                      obtain ⟨n, hn⟩ : ∃ n : Nat, n = dg (x / t8) m := ⟨_, rfl⟩
                      have hn2 := hn.trans (high8' x m)
                      rw [← hi, show m + 17 = i + 1 by omega] at hn2
                      have hnb : n < 256 := by rw [hn]; exact dg_lt _ _
                      have k4 := hset2 m ((o2.getD m 0 + 5 * n : Nat) : Int)
                      rw [nI_set] at k4
                      have HFN : Hid _ := HF2.out.put hmo hn
                      have HON : Hid ((o2.set m (o2.getD m 0 + 5 * n)).length ≤ L) := by show _ ≤ _; rw [List.length_set]; exact hlen2
                      generalize o2.set m (o2.getD m 0 + 5 * n) = o3 at k4 HFN HON
                      have HK4 : Hid _ := k4
                      generalize o2.getD m 0 = z at k1 hzb HK4
                      have ew : IntKind.i64.wrap ((z : Int) + 5 * (n : Int)) = ((z + 5 * n : Nat) : Int) := by rw [IntWalk.i64_in _ (by omega)]; omega
                      have e5 : IntKind.i64.wrap (5 * (n : Int)) = 5 * (n : Int) := IntWalk.i64_in _ (by omega)
                      have hq1 := dg_lt x i
                      have hq2 := dg_lt x (i + 1)
                      obtain ⟨n1, hn1⟩ : ∃ n1 : Nat, n1 = dg x i / 4 := ⟨_, rfl⟩
                      have et1 : ((dg x i : Nat) : Int).tdiv 4 = (n1 : Int) := by rw [Int.tdiv_eq_ediv_of_nonneg (by omega)]; omega
                      have ewn1 : IntKind.i64.wrap (n1 : Int) = (n1 : Int) := IntWalk.i64_in _ (by omega)
                      generalize hol : o2.length = ol at hsI hmo hmI hd2 hlen2 hlen3 hc2a k4 HK4 hsh ⊢
                      by_cases hl2 : i + 1 < L
                      · have e32 : ((i : Int) + 1).toNat = i + 1 := by omega
                        have hl32 : decide ((i : Int) + 1 < (L : Int)) = true := decide_eq_true (by omega)
                        have hlJ : (i : Int) + 1 < (L : Int) := by omega
                        have hc2 : WE.cell? ⟨gb, i + 1, none⟩ = some (.int .i64 ((dg x (i + 1) : Nat) : Int)) := by
                          rw [hN2.2.cell (p := ⟨gb, i + 1, none⟩) hglt]
                          exact HC.out (i + 1) hl2
                        obtain ⟨n2, hn22⟩ : ∃ n2 : Nat, n2 = dg x (i + 1) % 4 := ⟨_, rfl⟩
                        have et2 : ((dg x (i + 1) : Nat) : Int).tmod 4 = (n2 : Int) := by rw [Int.tmod_eq_emod_of_nonneg (by omega)]; omega
                        have ewn2 : IntKind.i64.wrap (n2 : Int) = (n2 : Int) := IntWalk.i64_in _ (by omega)
                        have ew2 : IntKind.i64.wrap ((n2 : Int) * 64) = (n2 : Int) * 64 := IntWalk.i64_in _ (by omega)
                        have ew3 : IntKind.i64.wrap ((n1 : Int) + (n2 : Int) * 64) = (n : Int) := by rw [IntWalk.i64_in _ (by omega)]; omega
                        generalize dg x i = q1 at hc1 et1
                        generalize dg x (i + 1) = q2 at hc2 et2
                        clear hN2 hcells2 hfree2 hset2 k4 hn hn2 hn1 hn22 hq1 hq2 hol hi
                        go_wp2
                        go_roundw
                        case rel => exact ⟨m + 1, o3, by rw [HI.out]; go_num, by have := HI.out; omega, HON, HFN, HK4.out⟩
                        case measure => have := HI.out; simp [intOf]; omega
                      · have hl32 : decide ((i : Int) + 1 < (L : Int)) = false := decide_eq_false (by omega)
                        have hlJ : (L : Int) ≤ (i : Int) + 1 := by omega
                        have hz2' : dg x (i + 1) = 0 := by
                          unfold dg
                          rw [Nat.div_eq_of_lt (Nat.lt_of_lt_of_le Hx.out (Nat.pow_le_pow_right (by decide) (by omega)))]
                        have hnn : n1 = n := by rw [hn2, hz2', hn1]; simp
                        subst hnn
                        generalize dg x i = q1 at hc1 et1
                        clear hN2 hcells2 hfree2 hset2 k4 hn hn2 hn1 hq1 hq2 hol hi hz2'
                        go_wp2
                        go_roundw
                        case rel => exact ⟨m + 1, o3, by rw [HI.out]; go_num, by have := HI.out; omega, HON, HFN, HK4.out⟩
                        case measure => have := HI.out; simp [intOf]; omega
                · have hdi : decide ((i : Int) < (L : Int)) = false := decide_eq_false (by omega)
                  have hiI : (L : Int) ≤ (i : Int) := by omega
                  have hmL : m + 16 = L := by omega
                  have HF : Hid (dv o1 = fold8 x) := HF1.out.done (by rw [hmL]; exact Hx.out)
                  have HOB : Hid (∀ y ∈ o1, y ≤ 1099511627776) := fun y hy => by
                    have := HF1.out.all y hy
                    omega
                  have hRD := hN1.rd
                  have HBD : Hid _ := stepB HB2.out hN1.2
                  clear hN1 hmL hi
                  go_wp2_with fail
                  refine (carry8_any _ o1 18 18 rfl (by omega) HOB.out (by have := HO1.out; omega) _ hRD).mono ?_
                  rintro e w9 ⟨v9, L9, rfl, hL9, h189, hx9, hmin, hN9⟩
                  rw [HF.out] at hx9 hmin hN9
                  have hfl := fold8_lt' x HGE.out
                  have hL9b := hmin L HO1.out (by omega) (Nat.lt_trans hfl Hx.out)
                  have HX9 : Hid (fold8 x < 256 ^ L9) := hx9
                  have HN9 : Hid _ := hN9.from8 HBD.out
                  have HFL : Hid (fold8 x < x) := hfl
                  have hL9c : L9 ≤ B := by omega
                  have HVE : Hid (vAt8 w9 v9 = fold8 x) := by show _ = _; rw [vAt8_eq hN9.rd, dv_dgN, Nat.mod_eq_of_lt hx9]
                  clear hmin hx9 hN9 hfl hL9 hL9b hRD
                  go_wp2
                  go_roundw
                  case rel => exact ⟨fold8 x, L9, h189, hL9c, HX9, (fold8_mod x).trans Hm.out, HN9.out⟩
                  case measure =>
                    have h1 := HV.out
                    have h2 := HVE.out
                    have h3 := HFL.out
                    simp
                    omega
end Go.Proofs.YtliiofjcghdjoaaDoor

/- What the document's own code of bytes is: a contract of the reference of layer 8. -/
namespace Go.Proofs.YtliiofjcghdjoaaDoor
open Go.ChangeShapes Go.WideShapes Go.ChangeAt Go.RowKit
set_option linter.unusedSimpArgs false
set_option linter.unusedVariables false

theorem Rd.cells8 {w : World} {v : Value} {l : List UInt8} (h : Rd w v l) (hl : 0 < l.length) : ∃ b off cap, v = .slice (some ⟨b, off, none⟩) l.length cap ∧ l.length ≤ cap ∧ b < w.heap.size ∧ ∀ i, i < l.length → w.cell? ⟨b, off + i, none⟩ = some (.int .u8 ((l.getD i 0).toNat : Int)) := by
  obtain ⟨b, off, cap, ev, h1, -, h2⟩ := h.cellAt hl
  refine ⟨b, off, cap, ev, h1, h2, fun i hi => ?_⟩
  obtain ⟨b', off', cap', ev', -, h3, -⟩ := h.cellAt hi
  rw [ev] at ev'
  simp only [Value.slice.injEq, Option.some.injEq, Addr.mk.injEq, and_true, true_and] at ev'
  obtain ⟨⟨rfl, rfl⟩, -⟩ := ev'
  exact h3
theorem zero18 : List.replicate 18 (0 : Int) = nI (dgN 0 18) := by decide

set_option maxRecDepth 100000 in
set_option maxHeartbeats 8000000 in
theorem mac8_any (vk vb : Value) (k b : List UInt8) (hk : k.length = 32) (hb : b.length ≤ 7000000) (w : World) (hrk : Rd w vk k) (hrb : Rd w vb b) :
    Calls Tryd.prog 60 #[vk, vb] w fun e w' => ∃ r, e = .returned r ∧ New 5 w r (mcP k b) w' := by
  obtain ⟨ti, hti, hz0, hz1, hz2⟩ := info_parts infoI8
  obtain ⟨bk, ok, ck, rfl, hck, hlk, hcellk⟩ := hrk.cells8 (by rw [hk]; decide)
  have HKC : Hid _ := hcellk
  obtain ⟨ab, cb, rfl, hcb, hmb, -, -⟩ := id hrb
  unfold maxLen at hmb
  have HRB : Hid _ := hrb
  have HK : Hid (k.length = 32) := hk
  rw [hk] at hck hrk ⊢
  clear hcellk hrb hk
  go_enter Tryd.func60, Tryd.ntmps60
  go_wp2_with fail
  refine (clamp8_any _ k HK.out _ hrk).mono ?_
  rintro e w1 ⟨vr, rfl, hNr⟩
  obtain ⟨br, orr, cr, rfl, hcr, hlr, hcellr⟩ := hNr.rd.cells8 (by rw [clP_length]; decide)
  have HR : Hid (∀ i, i < 16 → w1.cell? ⟨br, orr + i, none⟩ = some (.int .u8 ((dg (leN (clP k)) i : Nat) : Int))) := fun i hi => (by rw [dg_leN8]; exact hcellr i (by rw [clP_length]; exact hi))
  rw [clP_length] at hcr ⊢
  have HB1 : Hid _ := hNr.2
  have hR16 := leN_lt (clP k)
  rw [clP_length] at hR16
  have HR16 : Hid (leN (clP k) < 256 ^ 16) := hR16
  obtain ⟨R, hRe⟩ : ∃ R, R = leN (clP k) := ⟨_, rfl⟩
  have HRE : Hid (R = leN (clP k)) := hRe
  rw [← hRe] at HR HR16
  clear hcellr hNr hR16 hRe
  go_wp2_with (at_make; go_must (refine wpList_make_full _ rfl _ _ 68 rfl _ 3 ti _ 1 Tryd.underlying68 hti hz0 hz1 _ _ _ _ 18 rfl rfl rfl rfl (by rw [hz2]; omega) (by unfold maxLen; omega) (Nat.le_refl _) ?_))
  intro w2 hown hgr
  have hN2 := NewI.made hown hgr
  rw [zero18] at hN2
  clear hown hgr
  go_wp2
  go_loopw [6, 7] (fun av iv wx => ∃ j L : Nat, iv = .int .i64 ((16 * j : Nat) : Int) ∧ j ≤ nblk b.length ∧ 18 ≤ L ∧ L ≤ 18 + 34 * j ∧ NewI .i64 3 w1 av (nI (dgN (accN R b j) L)) wx) (fun _ iv _ => b.length + 16 - (intOf iv).toNat)
  case atStart => exact ⟨0, 18, rfl, by omega, by omega, by omega, hN2⟩
  case round =>
    obtain ⟨j, L, rfl, hj, hL1, hL2, hN⟩ := hrel
    rename World => WA
    clear hN2
    have hjb : j ≤ 437501 := by unfold nblk at hj; omega
    obtain ⟨i, hi⟩ : ∃ i : Nat, i = 16 * j := ⟨_, rfl⟩
    rw [← hi]
    have HI : Hid (i = 16 * j) := hi
    have HLM : Hid ((nI (dgN (accN R b j) L)).length = L) := by show _ = _; rw [nI_length, dgN_length]
    obtain ⟨ga, ca, rfl, hga, hgalt, hca, hcx, -, -, -⟩ := hN.all (by rw [← List.length_pos_iff, HLM.out]; omega)
    unfold maxLen at hcx
    rw [HLM.out] at hN hca ⊢
    have HAL : Hid (accN R b j < 256 ^ L) := by
      have h1 := accN_lt R b j
      have h3 : 256 ^ 18 ≤ 256 ^ L := Nat.pow_le_pow_right (by decide) hL1
      show _ < _
      rw [p8_val] at h1
      omega
    have hL0I : (17 : Int) < (L : Int) := by omega
    by_cases hlt : i < b.length
    · have hdi : decide ((i : Int) < (b.length : Int)) = true := decide_eq_true (by omega)
      have hiI : (i : Int) < (b.length : Int) := by omega
      obtain ⟨bs, hbs⟩ : ∃ bs, bs = (b.drop (16 * j)).take 16 := ⟨_, rfl⟩
      have hbl := blk_length b j
      rw [← hbs, ← hi] at hbl
      have HBG : Hid (∀ n, n < 16 → bs.getD n 0 = b.getD (i + n) 0) := fun n hn => by rw [hbs, hi]; exact blk_get b j n hn
      have HBN : Hid (blkN b j = leN bs + 256 ^ bs.length) := by show _ = _; rw [hbs]; rfl
      obtain ⟨bb, ob, cb2, ev, -, hlb, hcellb⟩ := Rd.cells8 (l := b) HRB.out (by omega)
      simp only [Value.slice.injEq] at ev
      obtain ⟨rfl, -, rfl⟩ := ev
      have HBC : Hid _ := hcellb
      have hS := Ad8.start (accN R b j) L bs HAL.out
      have HLE : Hid ((dgN (accN R b j) L).length = L) := dgN_length _ _
      have HS : Hid _ := hS
      have HBL : Hid (bs.length = min 16 (b.length - i)) := hbl
      clear hbs hcellb hi hS hbl
      go_wp2
      go_loopw [8] (fun nv wx => ∃ (n : Nat) (o : List Nat), nv = .int .i64 (n : Int) ∧ n ≤ bs.length ∧ Hid (o.length = L) ∧ Hid (Ad8 (accN R b j) bs n o) ∧ NewI .i64 3 w1 (.slice (some ⟨ga, 0, none⟩) L ca) (nI o) wx) (fun nv _ => 16 - (intOf nv).toNat)
      case atStart => exact ⟨0, _, rfl, by omega, HLE, HS, hN⟩
      case round =>
        obtain ⟨n, o, rfl, hn, HO, HA, hNn⟩ := hrel
        rename World => WB
        clear hN HS HLE
        have hbl := HBL.out
        have hn16 : n ≤ 16 := by omega
        obtain ⟨g, c, ev, -, -, k1, k2, k3⟩ := hNn.at (j := n) (by rw [nI_length, HO.out]; omega)
        simp only [Value.slice.injEq, Option.some.injEq, Addr.mk.injEq, and_true, true_and] at ev
        obtain ⟨rfl, -, rfl⟩ := ev
        rw [nI_get] at k1
        have hz := HA.out.rest n (Nat.le_refl _)
        have wi : IntKind.i64.wrap ((i : Int) + (n : Int)) = (i : Int) + (n : Int) := IntWalk.i64_in _ (by omega)
        have hnL : (n : Int) < (L : Int) := by omega
        by_cases hlt2 : n < bs.length
        · have d16 : decide ((n : Int) < 16) = true := decide_eq_true (by omega)
          have d16I : (n : Int) < 16 := by omega
          have db : decide ((i : Int) + (n : Int) < (b.length : Int)) = true := decide_eq_true (by omega)
          have dbI : (i : Int) + (n : Int) < (b.length : Int) := by omega
          have ein : ((i : Int) + (n : Int)).toNat = i + n := by omega
          have ei0 : (0 : Int) ≤ (i : Int) + (n : Int) := by omega
          have c2 : WB.cell? ⟨bb, ob + (i + n), none⟩ = some (.int .u8 (((bs.getD n 0).toNat : Nat) : Int)) := by
            rw [hNn.2.cell (p := ⟨bb, ob + (i + n), none⟩) (Nat.lt_of_lt_of_le hlb HB1.out.size), HB1.out.cell (p := ⟨bb, ob + (i + n), none⟩) hlb, HBG.out n (by omega)]
            exact HBC.out (i + n) (by omega)
          have k4 := k3 ((o.getD n 0 + (bs.getD n 0).toNat : Nat) : Int)
          rw [nI_set] at k4
          have HA2 : Hid _ := HA.out.put hlt2 (by rw [HO.out]; omega)
          have HO2 : Hid ((o.set n (o.getD n 0 + (bs.getD n 0).toNat)).length = L) := by show _ = _; rw [List.length_set]; exact HO.out
          have hbt := (bs.getD n 0).toNat_lt
          generalize o.set n (o.getD n 0 + (bs.getD n 0).toNat) = o2 at k4 HA2 HO2
          have HK4 : Hid _ := k4
          generalize o.getD n 0 = z at k1 hz HK4
          generalize (bs.getD n 0).toNat = t at c2 hbt HK4
          have es : IntKind.i64.wrap ((z : Int) + (t : Int)) = ((z + t : Nat) : Int) := by rw [IntWalk.i64_in _ (by omega)]; omega
          have et : IntKind.i64.wrap (t : Int) = (t : Int) := IntWalk.i64_in _ (by omega)
          clear hNn k3 k4 hbl
          go_wp2_with fail
          refine wpE_begin 13 (by kernel_rfl) ?_
          refine eU_ 0 rfl ⟨_, by intro W hW; go_simp <;> with_reducible rfl, ?_⟩
          try simp only [Act.put, pA_, pB_, pC_]
          refine eU_ 1 rfl ⟨_, by intro W hW; go_simp <;> with_reducible rfl, ?_⟩
          try simp only [Act.put, pA_, pB_, pC_]
          refine eU_ 2 rfl ⟨_, by intro W hW; go_simp <;> with_reducible rfl, ?_⟩
          try simp only [Act.put, pA_, pB_, pC_]
          refine eU_ 3 rfl ⟨_, by intro W hW; have hcw := cellU k1 hW; go_simp <;> with_reducible rfl, ?_⟩
          try simp only [Act.put, pA_, pB_, pC_]
          refine eU_ 4 rfl ⟨_, by intro W hW; go_simp <;> with_reducible rfl, ?_⟩
          try simp only [Act.put, pA_, pB_, pC_]
          refine eU_ 5 rfl ⟨_, by intro W hW; go_simp <;> with_reducible rfl, ?_⟩
          try simp only [Act.put, pA_, pB_, pC_]
          refine eU_ 6 rfl ⟨_, by intro W hW; go_simp <;> with_reducible rfl, ?_⟩
          try simp only [Act.put, pA_, pB_, pC_]
          refine eU_ 7 rfl ⟨_, by intro W hW; go_simp <;> with_reducible rfl, ?_⟩
          try simp only [Act.put, pA_, pB_, pC_]
          refine eU_ 8 rfl ⟨_, by intro W hW; go_simp <;> with_reducible rfl, ?_⟩
          try simp only [Act.put, pA_, pB_, pC_]
          refine eU_ 9 rfl ⟨_, by intro W hW; have hcw := cellU c2 hW; go_simp <;> with_reducible rfl, ?_⟩
          try simp only [Act.put, pA_, pB_, pC_]
          refine eU_ 10 rfl ⟨_, by intro W hW; go_simp <;> with_reducible rfl, ?_⟩
          try simp only [Act.put, pA_, pB_, pC_]
          refine eU_ 11 rfl ⟨_, by intro W hW; go_simp <;> with_reducible rfl, ?_⟩
          try simp only [Act.put, pA_, pB_, pC_]
          refine eU_ 12 rfl ⟨_, by intro W hW; go_simp <;> with_reducible rfl, ?_⟩
          try simp only [Act.put, pA_, pB_, pC_]
          refine eL_ fun K hK => ?_
          go_simp
          refine hK.out _ _ ?_
          clear hK K
          try simp only [Act.put, pA_, pB_, pC_]
          go_wp2
          go_roundw
          case rel => exact ⟨n + 1, o2, by go_num, by omega, HO2, HA2, NewI.drew HK4.out⟩
          case measure => simp [intOf] <;> omega
        · have hnb : n = bs.length := by omega
          have h1 := HA.out.one (by rw [HO.out]; omega)
          have k4 := k3 ((o.getD n 0 + 1 : Nat) : Int)
          rw [nI_set] at k4
          have HV : Hid (dv (o.set n (o.getD n 0 + 1)) = accN R b j + blkN b j) := by
            show _ = _
            rw [h1.1, HBN.out, hnb, List.take_length]
          have HOB : Hid (∀ y ∈ o.set n (o.getD n 0 + 1), y ≤ 1099511627776) := h1.2
          have HO2 : Hid ((o.set n (o.getD n 0 + 1)).length = L) := by show _ = _; rw [List.length_set]; exact HO.out
          generalize o.set n (o.getD n 0 + 1) = o2 at k4 HV HOB HO2
          generalize o.getD n 0 = z at k1 hz k4
          have es : IntKind.i64.wrap ((z : Int) + 1) = ((z + 1 : Nat) : Int) := by rw [IntWalk.i64_in _ (by omega)]; omega
          have hRD := k4.rd
          have HK4 : Hid _ := k4
          have hcon : n = 16 ∨ (n < 16 ∧ i + n = b.length) := by omega
          clear hNn k3 k4 h1 HA HO hlt2 hbl hnb hn
          rcases hcon with hcon | hcon
          case' inl =>
            subst hcon
          case' inr =>
            have d16 : decide ((n : Int) < 16) = true := decide_eq_true (by omega)
            have d16I : (n : Int) < 16 := by omega
            have db : decide ((i : Int) + (n : Int) < (b.length : Int)) = false := decide_eq_false (by omega)
            have dbI : (b.length : Int) ≤ (i : Int) + (n : Int) := by omega
            clear hcon
          all_goals
            go_wp2_with fail
            refine (carry8_any _ o2 18 18 rfl (by omega) HOB.out (by rw [HO2.out]; omega) _ hRD).mono ?_
            rintro e w4 ⟨v4, L4, rfl, hL4, h184, hx4, hmin, hN4⟩
            rw [HV.out] at hx4 hmin hN4
            rw [HO2.out] at hL4 hmin
            have hL4e : L4 = L := by
              have := hmin L (Nat.le_refl _) hL1 (acc_blk_lt R b j L hL1)
              omega
            subst hL4e
            have HX4 : Hid _ := hx4
            have HB4 : Hid _ := HK4.out.2.trans (hN4.2.mono HK4.out.2.size)
            have HLM4 : Hid ((nI (dgN (accN R b j + blkN b j) L4)).length = L4) := by show _ = _; rw [nI_length, dgN_length]
            obtain ⟨gs, cs, rfl, hgs, hgslt, hcs, hcsx, hcells4, -, -⟩ := hN4.all (by rw [← List.length_pos_iff, HLM4.out]; omega)
            unfold maxLen at hcsx
            have HC4 : Hid (∀ i, i < L4 → w4.cell? ⟨gs, i, none⟩ = some (.int .i64 ((dg (accN R b j + blkN b j) i : Nat) : Int))) := fun i hi => by rw [hcells4 i (by rw [HLM4.out]; exact hi), nI_get, dgN_get _ _ _ hi]
            rw [HLM4.out] at hcs ⊢
            have HAN : Hid (accN R b (j + 1) = (accN R b j + blkN b j) * R % p8) := rfl
            generalize accN R b j + blkN b j = s at hN4 HX4 HC4 HAN HLM4 HV
            obtain ⟨M, hM⟩ : ∃ M : Nat, M = L4 + 16 := ⟨_, rfl⟩
            have wM : IntKind.i64.wrap ((L4 : Int) + 16) = (M : Int) := by rw [IntWalk.i64_in _ (by omega)]; omega
            have hM2 : (M : Int).toNat = M := by omega
            have hM3 : M ≤ 15900000 := by omega
            have HM : Hid (M = L4 + 16) := hM
            clear hmin hx4 hN4 hcells4 hL4 h184 hRD HK4 k1 k2 es hM
            go_wp2_with (at_make; go_must (refine wpList_make_full _ rfl _ _ 68 rfl _ 3 ti _ 1 Tryd.underlying68 hti hz0 hz1 _ _ _ _ M rfl rfl (by omega) (by omega) (by rw [hz2]; omega) (by unfold maxLen; omega) (Nat.le_refl _) ?_))
            intro w5 hown hgr
            have hN5 := NewI.made hown hgr
            have HS5 : Hid _ := Mu8.start s R M
            have HL5 : Hid ((List.replicate M 0).length = M) := List.length_replicate
            rw [← nI_zeros] at hN5
            clear hown hgr
            go_wp2
            go_loopw [10] (fun xv wx => ∃ (x : Nat) (o : List Nat), xv = .int .i64 (x : Int) ∧ x ≤ L4 ∧ Hid (o.length = M) ∧ Hid (Mu8 s R x 0 o) ∧ NewI .i64 3 w4 (.slice (some ⟨w4.heap.size, 0, none⟩) M M) (nI o) wx) (fun xv _ => L4 - (intOf xv).toNat)
            case atStart => exact ⟨0, _, rfl, by omega, HL5, HS5, hN5⟩
            case round =>
              obtain ⟨x, o3, rfl, hx, HO3, HU3, hN6⟩ := hrel
              rename World => WC
              clear hN5 HS5 HL5
              by_cases hxl : x < L4
              · have dx : decide ((x : Int) < (L4 : Int)) = true := decide_eq_true (by omega)
                have dxI : (x : Int) < (L4 : Int) := by omega
                go_wp2
                go_loopw [11] (fun yv wx => ∃ (y : Nat) (o : List Nat), yv = .int .i64 (y : Int) ∧ y ≤ 16 ∧ Hid (o.length = M) ∧ Hid (Mu8 s R x y o) ∧ NewI .i64 3 w4 (.slice (some ⟨w4.heap.size, 0, none⟩) M M) (nI o) wx) (fun yv _ => 16 - (intOf yv).toNat)
                case atStart => exact ⟨0, _, rfl, by omega, HO3, HU3, hN6⟩
                case round =>
                  obtain ⟨y, o4, rfl, hy, HO4, HU4, hN7⟩ := hrel
                  rename World => WD
                  clear hN6 HO3 HU3
                  by_cases hyl : y < 16
                  · have dy : decide ((y : Int) < 16) = true := decide_eq_true (by omega)
                    have dyI : (y : Int) < 16 := by omega
                    have hMx := HM.out
                    have c1 : WD.cell? ⟨gs, x, none⟩ = some (.int .i64 ((dg s x : Nat) : Int)) := by
                      rw [hN7.2.cell (p := ⟨gs, x, none⟩) hgslt]
                      exact HC4.out x hxl
                    have c2 : WD.cell? ⟨br, orr + y, none⟩ = some (.int .u8 ((dg R y : Nat) : Int)) := by
                      rw [hN7.2.cell (p := ⟨br, orr + y, none⟩) (Nat.lt_of_lt_of_le hlr HB4.out.size), HB4.out.cell (p := ⟨br, orr + y, none⟩) hlr]
                      exact HR.out y hyl
                    obtain ⟨g, c, ev, -, -, k1, k2, k3⟩ := hN7.at (j := x + y) (by rw [nI_length, HO4.out]; omega)
                    simp only [Value.slice.injEq, Option.some.injEq, Addr.mk.injEq, and_true, true_and] at ev
                    obtain ⟨rfl, -, rfl⟩ := ev
                    rw [nI_get] at k1
                    have hzb := HU4.out.rest (x + y) (Nat.le_refl _)
                    have h1 := dg_lt s x
                    have h2 := dg_lt R y
                    have hpq : dg s x * dg R y ≤ 65025 := Nat.le_trans (Nat.mul_le_mul (show dg s x ≤ 255 by omega) (show dg R y ≤ 255 by omega)) (by omega)
                    have k4 := k3 ((o4.getD (x + y) 0 + dg s x * dg R y : Nat) : Int)
                    rw [nI_set] at k4
                    have HU5 : Hid _ := HU4.out.put (by rw [HO4.out]; omega)
                    have HO5 : Hid ((o4.set (x + y) (o4.getD (x + y) 0 + dg s x * dg R y)).length = M) := by show _ = _; rw [List.length_set]; exact HO4.out
                    generalize o4.set (x + y) (o4.getD (x + y) 0 + dg s x * dg R y) = o5 at k4 HU5 HO5
                    have HK5 : Hid _ := k4
                    generalize o4.getD (x + y) 0 = z4 at k1 HK5 hzb
                    obtain ⟨m, hm⟩ : ∃ m : Nat, m = dg s x * dg R y := ⟨_, rfl⟩
                    have em : IntKind.i64.wrap (((dg s x : Nat) : Int) * ((dg R y : Nat) : Int)) = (m : Int) := by
                      rw [← Int.natCast_mul, ← hm]
                      exact IntWalk.i64_in _ (by omega)
                    have ec : IntKind.i64.wrap ((dg R y : Nat) : Int) = ((dg R y : Nat) : Int) := IntWalk.i64_in _ (by omega)
                    rw [← hm] at HK5 hpq
                    have es : IntKind.i64.wrap ((z4 : Int) + (m : Int)) = ((z4 + m : Nat) : Int) := by rw [IntWalk.i64_in _ (by omega)]; omega
                    have ei : IntKind.i64.wrap ((x : Int) + (y : Int)) = (x : Int) + (y : Int) := IntWalk.i64_in _ (by omega)
                    have ein : ((x : Int) + (y : Int)).toNat = x + y := by omega
                    have eil : (x : Int) + (y : Int) < (M : Int) := by omega
                    have ei0 : (0 : Int) ≤ (x : Int) + (y : Int) := by omega
                    clear hN7 k3 k4 h1 h2 hm hzb HO4 HU4 hMx
                    go_wp2_with fail
                    refine wpE_begin 18 (by kernel_rfl) ?_
                    refine eU_ 0 rfl ⟨_, by intro W hW; go_simp <;> with_reducible rfl, ?_⟩
                    try simp only [Act.put, pA_, pB_, pC_]
                    refine eU_ 1 rfl ⟨_, by intro W hW; go_simp <;> with_reducible rfl, ?_⟩
                    try simp only [Act.put, pA_, pB_, pC_]
                    refine eU_ 2 rfl ⟨_, by intro W hW; go_simp <;> with_reducible rfl, ?_⟩
                    try simp only [Act.put, pA_, pB_, pC_]
                    refine eU_ 3 rfl ⟨_, by intro W hW; go_simp <;> with_reducible rfl, ?_⟩
                    try simp only [Act.put, pA_, pB_, pC_]
                    refine eU_ 4 rfl ⟨_, by intro W hW; go_simp <;> with_reducible rfl, ?_⟩
                    try simp only [Act.put, pA_, pB_, pC_]
                    refine eU_ 5 rfl ⟨_, by intro W hW; have hcw := cellU k1 hW; go_simp <;> with_reducible rfl, ?_⟩
                    try simp only [Act.put, pA_, pB_, pC_]
                    refine eU_ 6 rfl ⟨_, by intro W hW; go_simp <;> with_reducible rfl, ?_⟩
                    try simp only [Act.put, pA_, pB_, pC_]
                    refine eU_ 7 rfl ⟨_, by intro W hW; go_simp <;> with_reducible rfl, ?_⟩
                    try simp only [Act.put, pA_, pB_, pC_]
                    refine eU_ 8 rfl ⟨_, by intro W hW; go_simp <;> with_reducible rfl, ?_⟩
                    try simp only [Act.put, pA_, pB_, pC_]
                    refine eU_ 9 rfl ⟨_, by intro W hW; have hcw := cellU c1 hW; go_simp <;> with_reducible rfl, ?_⟩
                    try simp only [Act.put, pA_, pB_, pC_]
                    refine eU_ 10 rfl ⟨_, by intro W hW; go_simp <;> with_reducible rfl, ?_⟩
                    try simp only [Act.put, pA_, pB_, pC_]
                    refine eU_ 11 rfl ⟨_, by intro W hW; go_simp <;> with_reducible rfl, ?_⟩
                    try simp only [Act.put, pA_, pB_, pC_]
                    refine eU_ 12 rfl ⟨_, by intro W hW; go_simp <;> with_reducible rfl, ?_⟩
                    try simp only [Act.put, pA_, pB_, pC_]
                    refine eU_ 13 rfl ⟨_, by intro W hW; have hcw := cellU c2 hW; go_simp <;> with_reducible rfl, ?_⟩
                    try simp only [Act.put, pA_, pB_, pC_]
                    refine eU_ 14 rfl ⟨_, by intro W hW; go_simp <;> with_reducible rfl, ?_⟩
                    try simp only [Act.put, pA_, pB_, pC_]
                    refine eU_ 15 rfl ⟨_, by intro W hW; go_simp <;> with_reducible rfl, ?_⟩
                    try simp only [Act.put, pA_, pB_, pC_]
                    refine eU_ 16 rfl ⟨_, by intro W hW; go_simp <;> with_reducible rfl, ?_⟩
                    try simp only [Act.put, pA_, pB_, pC_]
                    refine eU_ 17 rfl ⟨_, by intro W hW; go_simp <;> with_reducible rfl, ?_⟩
                    try simp only [Act.put, pA_, pB_, pC_]
                    refine eL_ fun K hK => ?_
                    go_simp
                    refine hK.out _ _ ?_
                    clear hK K
                    try simp only [Act.put, pA_, pB_, pC_]
                    go_wp2
                    go_roundw
                    case rel => exact ⟨y + 1, o5, by go_num, by omega, HO5, HU5, NewI.drew HK5.out⟩
                    case measure => simp [intOf] <;> omega
                  · have hy16 : y = 16 := by omega
                    subst hy16
                    have HU5 : Hid _ := HU4.out.next HR16.out
                    have HK5 : Hid _ := hN7
                    clear hN7 HU4
                    go_wp2
                    go_roundw
                    case rel => exact ⟨x + 1, o4, by go_num, by omega, HO4, HU5, HK5.out⟩
                    case measure => simp [intOf] <;> omega
              · have hxe : x = L4 := by omega
                have dx : decide ((x : Int) < (L4 : Int)) = false := decide_eq_false (by omega)
                have dxI : (L4 : Int) ≤ (x : Int) := by omega
                have h1 := HU3.out
                rw [hxe] at h1
                have h2 := h1.done HX4.out (by omega)
                have HV6 : Hid _ := h2.1
                have HB6 : Hid _ := h2.2
                have hRD6 := hN6.rd
                have HB7 : Hid _ := HB4.out.trans (hN6.2.mono HB4.out.size)
                clear h1 h2 hN6 hxe
                go_wp2_with fail
                refine (mod8_any _ o3 HB6.out (by rw [HO3.out]; omega) _ hRD6).mono ?_
                rintro e w8 ⟨v8, L8, rfl, hL8, hL8b, hN8⟩
                rw [HV6.out, ← HAN.out] at hN8
                rw [HO3.out] at hL8b
                have HN8 : Hid _ := hN8.from8 HB7.out
                have hL8c : L8 ≤ 18 + 34 * (j + 1) := by have := HM.out; omega
                have HI2 : Hid ((i : Int) + 16 = ((16 * (j + 1) : Nat) : Int)) := by show _ = _; have := HI.out; omega
                have hj2 : j + 1 ≤ nblk b.length := by have := HI.out; unfold nblk; omega
                clear hN8 hRD6
                go_wp2
                go_roundw
                case rel => exact ⟨j + 1, L8, by rw [← HI2.out], hj2, hL8, hL8c, HN8.out⟩
                case measure => have := HI.out; simp [intOf] <;> omega
    · have hdi : decide ((i : Int) < (b.length : Int)) = false := decide_eq_false (by omega)
      have hiI : (b.length : Int) ≤ (i : Int) := by omega
      have hje : j = nblk b.length := by unfold nblk at hj ⊢; omega
      obtain ⟨ks, hks⟩ : ∃ ks, ks = (k.drop 16).take 16 := ⟨_, rfl⟩
      have hkl : ks.length = 16 := by rw [hks]; simp [HK.out]
      have HKL : Hid (ks.length = 16) := hkl
      have HKG : Hid (∀ n, n < 16 → ks.getD n 0 = k.getD (16 + n) 0) := fun n hn => by rw [hks]; simp [List.getElem?_take, hn]
      have HMC : Hid (mcP k b = (List.range 16).map (stB (accN R b j + leN ks))) := by show _ = _; unfold mcP; rw [hje, hks, HRE.out]
      have HLE : Hid ((dgN (accN R b j) L).length = L) := dgN_length _ _
      have HS : Hid _ := Ad8.start (accN R b j) L ks HAL.out
      clear hks hkl hje hi
      go_wp2
      go_loopw [12] (fun nv wx => ∃ (n : Nat) (o : List Nat), nv = .int .i64 (n : Int) ∧ n ≤ 16 ∧ Hid (o.length = L) ∧ Hid (Ad8 (accN R b j) ks n o) ∧ NewI .i64 3 w1 (.slice (some ⟨ga, 0, none⟩) L ca) (nI o) wx) (fun nv _ => 16 - (intOf nv).toNat)
      case atStart => exact ⟨0, _, rfl, by omega, HLE, HS, hN⟩
      case round =>
        obtain ⟨n, o, rfl, hn, HO, HA, hNn⟩ := hrel
        rename World => WB
        clear hN HS HLE
        by_cases hlt2 : n < 16
        · have d16 : decide ((n : Int) < 16) = true := decide_eq_true (by omega)
          have d16I : (n : Int) < 16 := by omega
          obtain ⟨g, c, ev, -, -, k1, k2, k3⟩ := hNn.at (j := n) (by rw [nI_length, HO.out]; omega)
          simp only [Value.slice.injEq, Option.some.injEq, Addr.mk.injEq, and_true, true_and] at ev
          obtain ⟨rfl, -, rfl⟩ := ev
          rw [nI_get] at k1
          have hz := HA.out.rest n (Nat.le_refl _)
          have wi : IntKind.i64.wrap (16 + (n : Int)) = 16 + (n : Int) := IntWalk.i64_in _ (by omega)
          have hnL : (n : Int) < (L : Int) := by omega
          have dbI : 16 + (n : Int) < 32 := by omega
          have ein : (16 + (n : Int)).toNat = 16 + n := by omega
          have ei0 : (0 : Int) ≤ 16 + (n : Int) := by omega
          have c2 : WB.cell? ⟨bk, ok + (16 + n), none⟩ = some (.int .u8 (((ks.getD n 0).toNat : Nat) : Int)) := by
            rw [hNn.2.cell (p := ⟨bk, ok + (16 + n), none⟩) (Nat.lt_of_lt_of_le hlk HB1.out.size), HB1.out.cell (p := ⟨bk, ok + (16 + n), none⟩) hlk, HKG.out n (by omega)]
            exact HKC.out (16 + n) (by rw [HK.out]; omega)
          have k4 := k3 ((o.getD n 0 + (ks.getD n 0).toNat : Nat) : Int)
          rw [nI_set] at k4
          have HA2 : Hid _ := HA.out.put (by rw [HKL.out]; omega) (by rw [HO.out]; omega)
          have HO2 : Hid ((o.set n (o.getD n 0 + (ks.getD n 0).toNat)).length = L) := by show _ = _; rw [List.length_set]; exact HO.out
          have hbt := (ks.getD n 0).toNat_lt
          generalize o.set n (o.getD n 0 + (ks.getD n 0).toNat) = o2 at k4 HA2 HO2
          have HK4 : Hid _ := k4
          generalize o.getD n 0 = z at k1 hz HK4
          generalize (ks.getD n 0).toNat = t at c2 hbt HK4
          have es : IntKind.i64.wrap ((z : Int) + (t : Int)) = ((z + t : Nat) : Int) := by rw [IntWalk.i64_in _ (by omega)]; omega
          have et : IntKind.i64.wrap (t : Int) = (t : Int) := IntWalk.i64_in _ (by omega)
          clear hNn k3 k4
          go_wp2_with fail
          refine wpE_begin 12 (by kernel_rfl) ?_
          refine eU_ 0 rfl ⟨_, by intro W hW; go_simp <;> with_reducible rfl, ?_⟩
          try simp only [Act.put, pA_, pB_, pC_]
          refine eU_ 1 rfl ⟨_, by intro W hW; go_simp <;> with_reducible rfl, ?_⟩
          try simp only [Act.put, pA_, pB_, pC_]
          refine eU_ 2 rfl ⟨_, by intro W hW; go_simp <;> with_reducible rfl, ?_⟩
          try simp only [Act.put, pA_, pB_, pC_]
          refine eU_ 3 rfl ⟨_, by intro W hW; have hcw := cellU k1 hW; go_simp <;> with_reducible rfl, ?_⟩
          try simp only [Act.put, pA_, pB_, pC_]
          refine eU_ 4 rfl ⟨_, by intro W hW; go_simp <;> with_reducible rfl, ?_⟩
          try simp only [Act.put, pA_, pB_, pC_]
          refine eU_ 5 rfl ⟨_, by intro W hW; go_simp <;> with_reducible rfl, ?_⟩
          try simp only [Act.put, pA_, pB_, pC_]
          refine eU_ 6 rfl ⟨_, by intro W hW; go_simp <;> with_reducible rfl, ?_⟩
          try simp only [Act.put, pA_, pB_, pC_]
          refine eU_ 7 rfl ⟨_, by intro W hW; go_simp <;> with_reducible rfl, ?_⟩
          try simp only [Act.put, pA_, pB_, pC_]
          refine eU_ 8 rfl ⟨_, by intro W hW; have hcw := cellU c2 hW; go_simp <;> with_reducible rfl, ?_⟩
          try simp only [Act.put, pA_, pB_, pC_]
          refine eU_ 9 rfl ⟨_, by intro W hW; go_simp <;> with_reducible rfl, ?_⟩
          try simp only [Act.put, pA_, pB_, pC_]
          refine eU_ 10 rfl ⟨_, by intro W hW; go_simp <;> with_reducible rfl, ?_⟩
          try simp only [Act.put, pA_, pB_, pC_]
          refine eU_ 11 rfl ⟨_, by intro W hW; go_simp <;> with_reducible rfl, ?_⟩
          try simp only [Act.put, pA_, pB_, pC_]
          refine eL_ fun K hK => ?_
          go_simp
          refine hK.out _ _ ?_
          clear hK K
          try simp only [Act.put, pA_, pB_, pC_]
          go_wp2
          go_roundw
          case rel => exact ⟨n + 1, o2, by go_num, by omega, HO2, HA2, NewI.drew HK4.out⟩
          case measure => simp [intOf] <;> omega
        · have hn16 : n = 16 := by omega
          subst hn16
          have HV : Hid (dv o = accN R b j + leN ks) := by
            have h := HA.out.val
            rw [List.take_of_length_le (by rw [HKL.out]; decide)] at h
            exact h
          have HOB : Hid (∀ y ∈ o, y ≤ 1099511627776) := fun y hy => by have := HA.out.all y hy; omega
          have hRD := hNn.rd
          have HB3 : Hid _ := HB1.out.trans (hNn.2.mono HB1.out.size)
          clear hNn HA hlt2
          go_wp2_with fail
          refine (carry8_any _ o 18 18 rfl (by omega) HOB.out (by rw [HO.out]; omega) _ hRD).mono ?_
          rintro e w4 ⟨v4, L4, rfl, hL4, h184, hx4, hmin, hN4⟩
          rw [HV.out] at hN4
          have HB4 : Hid _ := HB3.out.trans (hN4.2.mono HB3.out.size)
          have HLM4 : Hid ((nI (dgN (accN R b j + leN ks) L4)).length = L4) := by show _ = _; rw [nI_length, dgN_length]
          obtain ⟨gs, cs, rfl, hgs, hgslt, hcs, hcsx, hcells4, -, -⟩ := hN4.all (by rw [← List.length_pos_iff, HLM4.out]; omega)
          unfold maxLen at hcsx
          have HC4 : Hid (∀ i, i < L4 → w4.cell? ⟨gs, i, none⟩ = some (.int .i64 ((dg (accN R b j + leN ks) i : Nat) : Int))) := fun i hi => by rw [hcells4 i (by rw [HLM4.out]; exact hi), nI_get, dgN_get _ _ _ hi]
          rw [HLM4.out] at hcs ⊢
          generalize accN R b j + leN ks = s at HMC HC4
          clear hmin hx4 hN4 hcells4 hL4 hRD HLM4 HV HOB HO
          go_wp2
          go_loopw [13, 14] (fun v iv wx => ∃ i : Nat, i ≤ 16 ∧ iv = .int .i64 (i : Int) ∧ New 5 w4 v ((List.range i).map (stB s)) wx) (fun _ iv _ => 16 - (intOf iv).toNat)
          case atStart => exact ⟨0, by omega, rfl, New.start w4⟩
          case round =>
            obtain ⟨m, hm, rfl, hNo⟩ := hrel
            rename World => WC
            by_cases hl : m < 16
            · have hd : decide ((m : Int) < 16) = true := decide_eq_true (by omega)
              have hmI : (m : Int) < 16 := by omega
              have hmL : (m : Int) < (L4 : Int) := by omega
              have c1 : WC.cell? ⟨gs, m, none⟩ = some (.int .i64 ((dg s m : Nat) : Int)) := by
                rw [hNo.2.cell (p := ⟨gs, m, none⟩) hgslt]
                exact HC4.out m (by omega)
              have hw := stB_dg s m
              have HN : Hid ((List.range m).map (stB s) ++ [stB s m] = (List.range (m + 1)).map (stB s)) := by
                show _ = _
                rw [List.range_succ, List.map_append]
                rfl
              generalize dg s m = p at c1 hw
              generalize stB s m = q at hw HN
              have hLt : Rd (WC.alloc (.cells #[.int .u8 (q.toNat : Int)] 5)) (.slice (some ⟨WC.heap.size, 0, none⟩) 1 1) [q] := Rd.lit1 q rfl
              have hlen : ((List.range m).map (stB s)).length + [q].length ≤ 140737488355328 := by simp; omega
              go_wp2_with (at_builtin; go_must (refine wpList_append_new (w := w4) rfl _ _ 40 rfl 5 Tryd.underlying40 infoU88 _ _ rfl (hNo.alloc _) _ _ rfl hLt hlen ?_))
              intro v3 w3 hN3 _
              rw [HN.out] at hN3
              clear hNo hLt hlen
              go_wp2
              go_roundw
              case rel => exact ⟨m + 1, by omega, by go_num, hN3⟩
              case measure => simp [intOf] <;> omega
            · have hm16 : m = 16 := by omega
              subst hm16
              have hF := New.from hNo HB4.out
              rw [← HMC.out] at hF
              have HF : Hid _ := hF
              clear hNo hF
              go_wp2
              go_ret
              exact ⟨_, rfl, HF.out⟩
theorem mac8_none (vk vb : Value) (k b : List UInt8) (hk : k.length ≠ 32) (w : World) (hrk : Rd w vk k) :
    Calls Tryd.prog 60 #[vk, vb] w fun e w' => e = .returned (.slice none 0 0) ∧ w' = w := by
  obtain ⟨ak, ck, rfl, hck, hmk, -, -⟩ := id hrk
  have hne : ((k.length : Int) != 32) = true := by simp; omega
  clear hrk hk
  go_enter Tryd.func60, Tryd.ntmps60
  go_wp2
  go_ret
  exact ⟨rfl, rfl⟩
end Go.Proofs.YtliiofjcghdjoaaDoor

/- What the document's own filling up, joining and tag answer: contracts of the reference of layer 9, first part. -/
namespace Go.Proofs.YtliiofjcghdjoaaDoor
open Go.ChangeShapes Go.WideShapes Go.ChangeAt Go.RowKit
set_option linter.unusedSimpArgs false
set_option linter.unusedVariables false

/-- A slice's length. -/
def lenOf : Value → Nat
  | .slice _ n _ => n
  | _ => 0
/-- Bytes and so many noughts. -/
def flJ (b : List UInt8) (j : Nat) : List UInt8 := b ++ List.replicate j 0
theorem flJ_next (b : List UInt8) (j : Nat) : flJ b j ++ [(0 : UInt8)] = flJ b (j + 1) := by
  unfold flJ
  rw [List.append_assoc, ← List.replicate_succ']
theorem flJ_length (b : List UInt8) (j : Nat) : (flJ b j).length = b.length + j := by simp [flJ]
theorem pd16_on (n j : Nat) (h : j < pd16 n) : ((((n + j : Nat) : Int) % 16) != 0) = true := by
  unfold pd16 at h
  simp
  omega
theorem pd16_off (n : Nat) : ((((n + pd16 n : Nat) : Int) % 16) != 0) = false := by
  unfold pd16
  simp
  omega

set_option maxRecDepth 100000 in
set_option maxHeartbeats 1000000 in
theorem fillR_any (vb : Value) (b : List UInt8) (hl : b.length ≤ 100000000000) (w : World) (hb : Rd w vb b) :
    Calls Tryd.prog 59 #[vb] w fun e w' => ∃ r, e = .returned r ∧ New 5 w r (flL b) w' := by
  have HL : Hid (b.length ≤ 100000000000) := hl
  have HL0 : Hid (([] : List UInt8).length + b.length ≤ 140737488355328) := by show _ ≤ _; simp; omega
  have hN0 : New 5 w (.slice none 0 0) [] w := New.start w
  clear hl
  go_enter Tryd.func59, Tryd.ntmps59
  go_wp2_with (at_builtin; go_must (refine wpList_append_new (w := w) rfl _ _ 40 rfl 5 Tryd.underlying40 infoU8 _ _ rfl hN0 _ _ rfl hb HL0.out ?_))
  intro v1 w1 hN1 _
  go_wp2
  go_loopw [3] (fun v wx => ∃ j : Nat, j ≤ pd16 b.length ∧ New 5 w v (flJ b j) wx) (fun v _ => pd16 b.length + b.length - lenOf v)
  case atStart => exact ⟨0, Nat.zero_le _, by simpa [flJ] using hN1⟩
  case round =>
    obtain ⟨j, hj, hN⟩ := hrel
    clear hN1
    obtain ⟨a, c, rfl, hc, hm, -, -⟩ := id hN.rd
    unfold maxLen at hm
    have hlen : (flJ b j).length = b.length + j := flJ_length b j
    have HS : Hid (b.length + j + 1 ≤ 140737488355328) := by show _ ≤ _; have := HL.out; have := pd16_lt b.length; omega
    obtain ⟨m, hm2⟩ : ∃ m : Nat, m = b.length + j := ⟨_, rfl⟩
    by_cases hlt : j < pd16 b.length
    · have hd := pd16_on b.length j hlt
      rw [← hm2] at hd
      rw [hlen, ← hm2] at hN ⊢
      have HN : Hid (New _ _ _ _ _) := hN
      have HM : Hid _ := hm2
      clear hN hm hlen hm2 hc
      go_wp2_with (at_builtin; go_must (refine wpList_append_new (w := w) rfl _ _ 40 rfl 5 Tryd.underlying40 infoU8 _ _ rfl (HN.out.alloc _) _ _ rfl (Rd.lit1 (0 : UInt8) rfl) (by rw [flJ_length]; exact HS.out) ?_))
      intro v2 w2 hN2 _
      rw [flJ_next] at hN2
      obtain ⟨a2, c2, rfl, -, -, -, -⟩ := id hN2.rd
      go_wp2
      go_roundw
      case rel => exact ⟨j + 1, by omega, hN2⟩
      case measure => have := HM.out; simp [lenOf, flJ_length]; omega
    · have hje : j = pd16 b.length := by omega
      have hd := pd16_off b.length
      rw [← hje, ← hm2] at hd
      rw [hlen, ← hm2] at hN ⊢
      have HN : Hid (New _ _ _ _ _) := hN
      have HF : Hid (flL b = flJ b j) := by show _ = _; rw [hje]; rfl
      clear hN hm hlen
      go_wp2
      go_ret
      exact ⟨_, rfl, by rw [HF.out]; exact HN.out⟩

set_option maxRecDepth 100000 in
set_option maxHeartbeats 2000000 in
theorem tagR_any (vk vn va vb : Value) (k n a b : List UInt8) (hk32 : k.length = 32) (hn12 : n.length = 12) (hla : a.length ≤ 3000000) (hlb : b.length ≤ 3000000) (w : World) (hk : Rd w vk k) (hn : Rd w vn n) (ha : Rd w va a) (hb : Rd w vb b) :
    Calls Tryd.prog 52 #[vk, vn, va, vb] w fun e w' => ∃ r, e = .returned r ∧ New 5 w r (tgL k n a b) w' := by
  have HK : Hid (k.length = 32) := hk32
  have HN : Hid (n.length = 12) := hn12
  have HA : Hid (a.length ≤ 3000000) := hla
  have HB : Hid (b.length ≤ 3000000) := hlb
  have HP : Hid (pd16 a.length < 16 ∧ pd16 b.length < 16) := ⟨pd16_lt _, pd16_lt _⟩
  obtain ⟨aa, ca, rfl, hca, hma, -, -⟩ := id ha
  obtain ⟨ab, cb, rfl, hcb, hmb, -, -⟩ := id hb
  unfold maxLen at hma hmb
  have HK0 : Hid (Rd w vk k) := hk
  have HN0 : Hid (Rd w vn n) := hn
  clear hk32 hn12 hla hlb
  go_enter Tryd.func52, Tryd.ntmps52
  go_wp2_with fail
  refine (fillR_any _ a (by have := HA.out; omega) _ ha).mono ?_
  rintro e w1 ⟨v1, rfl, hN1⟩
  replace hk := hk.kept hN1.2
  replace hn := hn.kept hN1.2
  replace hb := hb.kept hN1.2
  go_wp2_with fail
  refine (fillR_any _ b (by have := HB.out; omega) _ hb).mono ?_
  rintro e w2 ⟨v2, rfl, hN2⟩
  replace hk := hk.kept hN2.2
  replace hn := hn.kept hN2.2
  replace hN1 := hN1.kept hN2.2
  have h2 := hN2.rd
  clear hN2 ha hb
  have HL : Hid ((flL a).length + (flL b).length ≤ 140737488355328) := by show _ ≤ _; have := HA.out; have := HB.out; have := HP.out; rw [flL_length, flL_length]; omega
  go_wp2_with (at_builtin; go_must (refine wpList_append_new (w := w) rfl _ _ 40 rfl 5 Tryd.underlying40 infoU8 _ _ rfl hN1 _ _ rfl h2 HL.out ?_))
  intro v3 w3 hN3 hg3
  replace hk := HK0.out.kept hN3.2
  replace hn := HN0.out.kept hN3.2
  clear h2 hg3 hN1 HL
  go_wp2_with fail
  refine (refstore_k a.length (by have := HA.out; omega) 8 8 (by decide) (by omega) _).mono ?_
  rintro e w4 ⟨v4, rfl, hN4⟩
  replace hk := hk.kept hN4.2
  replace hn := hn.kept hN4.2
  replace hN3 := hN3.kept hN4.2
  have h4 : Rd w4 v4 (st8 a.length) := hN4.rd
  have HL : Hid ((flL a ++ flL b).length + (st8 a.length).length ≤ 140737488355328) := by show _ ≤ _; have := HA.out; have := HB.out; have := HP.out; rw [List.length_append, flL_length, flL_length, st8_length]; omega
  clear hN4
  go_wp2_with (at_builtin; go_must (refine wpList_append_new (w := w) rfl _ _ 40 rfl 5 Tryd.underlying40 infoU8 _ _ rfl hN3 _ _ rfl h4 HL.out ?_))
  intro v5 w5 hN5 hg5
  replace hk := HK0.out.kept hN5.2
  replace hn := HN0.out.kept hN5.2
  clear h4 hg5 hN3 HL
  go_wp2_with fail
  refine (refstore_k b.length (by have := HB.out; omega) 8 8 (by decide) (by omega) _).mono ?_
  rintro e w6 ⟨v6, rfl, hN6⟩
  replace hk := hk.kept hN6.2
  replace hn := hn.kept hN6.2
  replace hN5 := hN5.kept hN6.2
  have h6 : Rd w6 v6 (st8 b.length) := hN6.rd
  have HL : Hid ((flL a ++ (flL b ++ st8 a.length)).length + (st8 b.length).length ≤ 140737488355328) := by show _ ≤ _; have := HA.out; have := HB.out; have := HP.out; rw [List.length_append, List.length_append, flL_length, flL_length, st8_length, st8_length]; omega
  clear hN6
  go_wp2_with (at_builtin; go_must (refine wpList_append_new (w := w) rfl _ _ 40 rfl 5 Tryd.underlying40 infoU8 _ _ rfl hN5 _ _ rfl h6 HL.out ?_))
  intro v7 w7 hN7 hg7
  replace hk := HK0.out.kept hN7.2
  replace hn := HN0.out.kept hN7.2
  have HI : Hid (New 5 w v7 (tgI a b) w7) := by
    show New _ _ _ _ _
    have e : tgI a b = flL a ++ (flL b ++ (st8 a.length ++ st8 b.length)) := by simp [tgI]
    rw [e]
    exact hN7
  clear h6 hg7 hN5 HL hN7
  go_wp2_with fail
  refine (blockR_any _ _ k n 0 _ rfl (by decide) _ hk hn HK.out HN.out).mono ?_
  rintro e w8 ⟨v8, rfl, hN8⟩
  have h8 := hN8.rd
  have hI := HI.out.kept hN8.2
  obtain ⟨a8, c8, rfl, hc8, hm8, -, -⟩ := id h8
  rw [bkL_length] at h8 hc8 ⊢
  have ht := h8.take (n := 32) (by decide)
  have HT : Hid (((bkL k 0 n).take 32).length = 32) := by show _ = _; rw [List.length_take, bkL_length]; rfl
  have HTI : Hid ((tgI a b).length ≤ 7000000) := by show _ ≤ _; have := HA.out; have := HB.out; have := HP.out; rw [tgI_length]; omega
  have HE : Hid (tgL k n a b = mcP ((bkL k 0 n).take 32) (tgI a b)) := rfl
  generalize (bkL k 0 n).take 32 = K at ht HT HE
  generalize tgI a b = I at hI HTI HE
  clear h8 hN8 HI
  go_wp2_with fail
  refine (mac8_any _ _ K I HT.out HTI.out _ ht hI.rd).mono ?_
  rintro e w9 ⟨v9, rfl, hN9⟩
  rw [← HE.out] at hN9
  go_wp2
  go_ret
  exact ⟨_, rfl, hN9.from hI.2⟩
end Go.Proofs.YtliiofjcghdjoaaDoor

/- The code of bytes: a contract of package poly, fifth part. -/
namespace Go.Proofs.YtliiofjcghdjoaaDoor
open Go.ChangeShapes Go.WideShapes Go.ChangeAt Go.RowKit
set_option linter.unusedSimpArgs false
set_option linter.unusedVariables false

/-- A variable is made, all noughts, in a region whose order is open. -/
theorem wp_alloc_nm {w0 : World} {op : Oper} {a : Act} {w : World} {K : Act → World → Prop} {Q : Exit → Act → World → Prop} (hB : Below w0.heap.size w0 w) (ho : op.op = .alloc 124)
    (h : ∀ g w', RowAt .u64 124 g 3 (nI z3) w' → w0.heap.size ≤ g → w.heap.size ≤ g → Below w.heap.size w w' → Below w0.heap.size w0 w' → K (a.put op.dst (.pointer (some ⟨g, 0, none⟩))) w') : op.wp Tryd.prog a w K Q := by
  unfold Oper.wp execOp
  simp only [ho, Sem.run_bind, alloc_nm, Result.andThen_ok, Sem.run_pure]
  refine h _ _ (RowAt.fresh (nI z3) rfl rfl z3_nm.len.symm z3_nm.ne (nmMax z3_nm)) hB.size (Nat.le_refl _) (growB _) (stepB hB (growB _))
/-- A whole number is stored into a row of the region's own. -/
theorem wp_store_nm {w0 : World} {g : Nat} {l l2 : List Nat} {op : Oper} {a : Act} {w : World} {K : Act → World → Prop} {Q : Exit → Act → World → Prop} (hB : Below w0.heap.size w0 w) (hge : w0.heap.size ≤ g) (x y : Operand) (ho : op.op = .store 124 x y)
    (hx : a.eval x = .pointer (some ⟨g, 0, none⟩)) (hy : a.eval y = nmV l2) (hr : RowAt .u64 124 g 3 (nI l) w) (hl : Nm3 l) (hl2 : Nm3 l2)
    (h : ∀ w', RowAt .u64 124 g 3 (nI l2) w' → Wrote g w w' → Below w0.heap.size w0 w' → K (a.put op.dst undef) w') : op.wp Tryd.prog a w K Q :=
  wp_store_row 124 x y ho (nI l2) hx hy hr (by rw [hl.len, hl2.len]) (nmInfo hl) fun w' h1 h2 => h w' h1 h2 (h2.below _ _ hge hB)
def rowLen8 : Value → Nat
  | .slice _ n _ => n
  | _ => 0
theorem RdL.pair8 {w : World} {e : TypeId} {v1 v2 : Value} {l1 l2 : List UInt8} {b : Nat} (hb : b = w.heap.size) (h1 : Rd w v1 l1) (h2 : Rd w v2 l2) : RdL (w.alloc (.cells #[v1, v2] e)) (.slice (some ⟨b, 0, none⟩) 2 2) [v1, v2] [l1, l2] := by
  subst hb
  refine RdL.lit [v1, v2] [l1, l2] rfl rfl rfl (by unfold maxLen; simp) rfl fun i hi => ?_
  match i, hi with
  | 0, _ => exact h1
  | 1, _ => exact h2
theorem New.pair8 {e : TypeId} {w w' : World} {v : Value} {l1 l2 : List UInt8} (h : New e w v [l1, l2].flatten w') : New e w v (l1 ++ l2) w' := by
  simpa using h
theorem drop_more (b : List UInt8) (j m L : Nat) (hL : L = (b.drop (16 * j)).length) (hm : m = min L 16) : (b.drop (16 * j)).drop m = b.drop (16 * (j + 1)) ∧ (b.drop (16 * j)).take m = (b.drop (16 * j)).take 16 := by
  rw [List.length_drop] at hL
  rw [List.drop_drop]
  refine ⟨?_, ?_⟩
  · by_cases h : 16 ≤ L
    · rw [show 16 * j + m = 16 * (j + 1) by omega]
    · rw [List.drop_eq_nil_of_le (by omega), List.drop_eq_nil_of_le (by omega)]
  · by_cases h : 16 ≤ L
    · rw [show m = 16 by omega]
    · rw [List.take_of_length_le (by rw [List.length_drop]; omega), List.take_of_length_le (by rw [List.length_drop]; omega)]

theorem mac_sum_lt (k b : List UInt8) (hk : k.length = 32) : accN (leN (clP k)) b (nblk b.length) + leN (k.drop 16) < 6277101735386680763835789423207666416102355444464034512896 := by
  have h1 := accN_lt (leN (clP k)) b (nblk b.length)
  have h2 := leN_lt (k.drop 16)
  rw [List.length_drop, hk, show 32 - 16 = 16 from rfl] at h2
  rw [p8_val] at h1
  omega
theorem mcP_eq (k b : List UInt8) (hk : k.length = 32) : mcP k b = (List.range 16).map (stB (accN (leN (clP k)) b (nblk b.length) + leN (k.drop 16))) := by
  unfold mcP
  rw [List.take_of_length_le (by rw [List.length_drop, hk]; decide)]

set_option maxRecDepth 100000 in
set_option maxHeartbeats 2000000 in
theorem pmac_arg (vk vb : Value) (k : List UInt8) (w : World) (hk : Rd w vk k) (h : k.length ≠ 32) :
    Calls Tryd.prog 69 #[vk, vb] w fun e w' => e = .returned (.slice none 0 0) ∧ w' = w := by
  obtain ⟨ak, ck, rfl, -, hmk, -, -⟩ := id hk
  have hne : ((k.length : Int) != 32) = true := by simp; omega
  go_enter Tryd.func69, Tryd.ntmps69
  go_wp2
  go_ret
  exact ⟨rfl, rfl⟩

set_option maxRecDepth 100000 in
set_option maxHeartbeats 8000000 in
theorem pmac_any (vk vb : Value) (k b : List UInt8) (w : World) (hT : KpT w) (hk : Rd w vk k) (hb : Rd w vb b) (hk32 : k.length = 32) :
    Calls Tryd.prog 69 #[vk, vb] w fun e w' => ∃ r, e = .returned r ∧ New 5 w r (mcP k b) w' := by
  obtain ⟨bk, ok, ck, ev, hck, hmk, -⟩ := hk.cells (by omega)
  rw [hk32] at ev hck
  subst ev
  have HT : Hid (KpT w) := hT
  have HK : Hid (Rd w (.slice (some ⟨bk, ok, none⟩) 32 ck) k) := hk
  have hs := hk.sub 16 32 (by omega) (by omega)
  have hk16 : (k.drop 16).take (32 - 16) = k.drop 16 := by rw [List.take_of_length_le (by rw [List.length_drop]; omega)]
  rw [hk16] at hs
  have HS : Hid (Rd w (.slice (some ⟨bk, ok + 16, none⟩) 16 (ck - 16)) (k.drop 16)) := hs
  have HK32 : Hid _ := hk32
  have HB : Hid (Rd w vb b) := hb
  unfold maxLen at hmk
  have ym1 : ¬ ck = 16 := by omega
  have ym2 : (32 : Int) ≤ (ck : Int) := by omega
  clear hk hs hk16 hk32 hT hb
  go_enter Tryd.func69, Tryd.ntmps69
  go_upto_region 3 with fail
  go_cut [5, 6] (fun v5 v6 wx => ∃ (g5 g6 : Nat) (r s : List Nat), v5 = .pointer (some ⟨g5, 0, none⟩) ∧ v6 = .pointer (some ⟨g6, 0, none⟩) ∧ w.heap.size ≤ g5 ∧ w.heap.size ≤ g6 ∧ g5 ≠ g6 ∧ Hid (Nm3 r) ∧ Hid (Nm3 s) ∧ Hid (wv r = leN (clP k)) ∧ Hid (wv s = leN (k.drop 16)) ∧
    RowAt .u64 124 g5 3 (nI r) wx ∧ RowAt .u64 124 g6 3 (nI s) wx ∧ Below w.heap.size w wx)
  case first =>
    have hB : Below w.heap.size w w.drew := (Below.refl _ _).drew
    refine wpB_begin (Below.refl w.heap.size w) (by kernel_rfl) ?_
    refine bU_ hB 0 rfl ⟨_, by intro W hW; go_simp <;> with_reducible rfl, ?_⟩
    try simp only [Act.put, pA_, pB_, pC_]
    refine bU_ hB 3 rfl ⟨_, by intro W hW; go_simp <;> with_reducible rfl, ?_⟩
    try simp only [Act.put, pA_, pB_, pC_]
    refine bU_ hB 4 rfl ⟨_, by intro W hW; go_simp <;> with_reducible rfl, ?_⟩
    try simp only [Act.put, pA_, pB_, pC_]
    refine bF3_ 1 6 7 (fun K hK => ?_) (fun K hK => ?_) (fun K hK => ?_)
    · go_simp
      refine (pclamp_any _ k _ (HT.out.kept hB) (HK.out.kept hB) HK32.out).mono ?_
      rintro e wq ⟨vC, rfl, hN1⟩
      have hC := hN1.rd
      replace hB := stepB hB hN1.2
      try replace hG5 := hG5.kept hN1.2
      try replace hG6 := hG6.kept hN1.2
      refine hK.out _ _ hB ?_
      clear hK K
      try simp only [Act.put, pA_, pB_, pC_]
      refine bF3_ 2 6 7 (fun K hK => ?_) (fun K hK => ?_) (fun K hK => ?_)
      · go_simp
        refine (numberOf_any _ (clP k) _ hC (by rw [clP_length]; decide)).mono ?_
        rintro e wq ⟨r, rfl, hr, hvr, bq⟩
        replace hB := stepB hB bq
        try replace hG5 := hG5.kept bq
        try replace hG6 := hG6.kept bq
        refine hK.out _ _ hB ?_
        clear hK K
        try simp only [Act.put, pA_, pB_, pC_]
        refine bF3_ 5 6 7 (fun K hK => ?_) (fun K hK => ?_) (fun K hK => ?_)
        · go_simp
          refine (numberOf_any _ (k.drop 16) _ (HS.out.kept hB) (by rw [List.length_drop, HK32.out]; decide)).mono ?_
          rintro e wq ⟨s, rfl, hs, hvs, bq⟩
          replace hB := stepB hB bq
          try replace hG5 := hG5.kept bq
          try replace hG6 := hG6.kept bq
          refine hK.out _ _ hB ?_
          clear hK K
          try simp only [Act.put, pA_, pB_, pC_]
          refine bF_ 6 7 (fun K hK => ?_) (fun K hK => ?_)
          · refine wp_alloc_nm hB rfl ?_
            intro g5 wA hG5 hge5 hgw5 hbA hBA
            replace hB := hBA
            try have hlt6 := hG6.lt
            try replace hG6 := hG6.kept hbA
            try replace hC := hC.kept hbA
            refine hK.out _ _ hB ?_
            clear hK K
            try simp only [Act.put, pA_, pB_, pC_]
            refine bD_ 7 fun K hK => ?_
            refine wp_alloc_nm hB rfl ?_
            intro g6 wA hG6 hge6 hgw6 hbA hBA
            replace hB := hBA
            try have hlt5 := hG5.lt
            try replace hG5 := hG5.kept hbA
            try replace hC := hC.kept hbA
            refine hK.out _ _ hB ?_
            clear hK K
            try simp only [Act.put, pA_, pB_, pC_]
            refine bD_ 8 fun K hK => ?_
            have hne56 : g5 ≠ g6 := by omega
            refine wp_store_nm (l := z3) (l2 := r) hB hge5 _ _ rfl rfl rfl hG5 z3_nm hr ?_
            intro wS hG5S hwS hBS
            replace hB := hBS
            replace hG6 := hG6.wrote hwS (by omega)
            refine hK.out _ _ hB ?_
            clear hK K
            try simp only [Act.put, pA_, pB_, pC_]
            refine bD_ 9 fun K hK => ?_
            refine wp_store_nm (l := z3) (l2 := s) hB hge6 _ _ rfl rfl rfl hG6 z3_nm hs ?_
            intro wS2 hG6S hwS2 hBS2
            replace hB := hBS2
            replace hG5S := hG5S.wrote hwS2 (by omega)
            refine hK.out _ _ hB ?_
            clear hK K
            try simp only [Act.put, pA_, pB_, pC_]
            refine wpB_done (by kernel_rfl) ?_
            go_wp2_with fail
            go_meet
            exact ⟨g5, g6, r, s, rfl, rfl, hge5, hge6, hne56, hr, hs, hvr, hvs, hG5S, hG6S, hB⟩
          · refine wp_alloc_nm hB rfl ?_
            intro g6 wA hG6 hge6 hgw6 hbA hBA
            replace hB := hBA
            try have hlt5 := hG5.lt
            try replace hG5 := hG5.kept hbA
            try replace hC := hC.kept hbA
            refine hK.out _ _ hB ?_
            clear hK K
            try simp only [Act.put, pA_, pB_, pC_]
            refine bD_ 6 fun K hK => ?_
            refine wp_alloc_nm hB rfl ?_
            intro g5 wA hG5 hge5 hgw5 hbA hBA
            replace hB := hBA
            try have hlt6 := hG6.lt
            try replace hG6 := hG6.kept hbA
            try replace hC := hC.kept hbA
            refine hK.out _ _ hB ?_
            clear hK K
            try simp only [Act.put, pA_, pB_, pC_]
            refine bD_ 8 fun K hK => ?_
            have hne56 : g5 ≠ g6 := by omega
            refine wp_store_nm (l := z3) (l2 := r) hB hge5 _ _ rfl rfl rfl hG5 z3_nm hr ?_
            intro wS hG5S hwS hBS
            replace hB := hBS
            replace hG6 := hG6.wrote hwS (by omega)
            refine hK.out _ _ hB ?_
            clear hK K
            try simp only [Act.put, pA_, pB_, pC_]
            refine bD_ 9 fun K hK => ?_
            refine wp_store_nm (l := z3) (l2 := s) hB hge6 _ _ rfl rfl rfl hG6 z3_nm hs ?_
            intro wS2 hG6S hwS2 hBS2
            replace hB := hBS2
            replace hG5S := hG5S.wrote hwS2 (by omega)
            refine hK.out _ _ hB ?_
            clear hK K
            try simp only [Act.put, pA_, pB_, pC_]
            refine wpB_done (by kernel_rfl) ?_
            go_wp2_with fail
            go_meet
            exact ⟨g5, g6, r, s, rfl, rfl, hge5, hge6, hne56, hr, hs, hvr, hvs, hG5S, hG6S, hB⟩
        · refine wp_alloc_nm hB rfl ?_
          intro g5 wA hG5 hge5 hgw5 hbA hBA
          replace hB := hBA
          try have hlt6 := hG6.lt
          try replace hG6 := hG6.kept hbA
          try replace hC := hC.kept hbA
          refine hK.out _ _ hB ?_
          clear hK K
          try simp only [Act.put, pA_, pB_, pC_]
          refine bF_ 5 7 (fun K hK => ?_) (fun K hK => ?_)
          · go_simp
            refine (numberOf_any _ (k.drop 16) _ (HS.out.kept hB) (by rw [List.length_drop, HK32.out]; decide)).mono ?_
            rintro e wq ⟨s, rfl, hs, hvs, bq⟩
            replace hB := stepB hB bq
            try replace hG5 := hG5.kept bq
            try replace hG6 := hG6.kept bq
            refine hK.out _ _ hB ?_
            clear hK K
            try simp only [Act.put, pA_, pB_, pC_]
            refine bD_ 7 fun K hK => ?_
            refine wp_alloc_nm hB rfl ?_
            intro g6 wA hG6 hge6 hgw6 hbA hBA
            replace hB := hBA
            try have hlt5 := hG5.lt
            try replace hG5 := hG5.kept hbA
            try replace hC := hC.kept hbA
            refine hK.out _ _ hB ?_
            clear hK K
            try simp only [Act.put, pA_, pB_, pC_]
            refine bD_ 8 fun K hK => ?_
            have hne56 : g5 ≠ g6 := by omega
            refine wp_store_nm (l := z3) (l2 := r) hB hge5 _ _ rfl rfl rfl hG5 z3_nm hr ?_
            intro wS hG5S hwS hBS
            replace hB := hBS
            replace hG6 := hG6.wrote hwS (by omega)
            refine hK.out _ _ hB ?_
            clear hK K
            try simp only [Act.put, pA_, pB_, pC_]
            refine bD_ 9 fun K hK => ?_
            refine wp_store_nm (l := z3) (l2 := s) hB hge6 _ _ rfl rfl rfl hG6 z3_nm hs ?_
            intro wS2 hG6S hwS2 hBS2
            replace hB := hBS2
            replace hG5S := hG5S.wrote hwS2 (by omega)
            refine hK.out _ _ hB ?_
            clear hK K
            try simp only [Act.put, pA_, pB_, pC_]
            refine wpB_done (by kernel_rfl) ?_
            go_wp2_with fail
            go_meet
            exact ⟨g5, g6, r, s, rfl, rfl, hge5, hge6, hne56, hr, hs, hvr, hvs, hG5S, hG6S, hB⟩
          · refine wp_alloc_nm hB rfl ?_
            intro g6 wA hG6 hge6 hgw6 hbA hBA
            replace hB := hBA
            try have hlt5 := hG5.lt
            try replace hG5 := hG5.kept hbA
            try replace hC := hC.kept hbA
            refine hK.out _ _ hB ?_
            clear hK K
            try simp only [Act.put, pA_, pB_, pC_]
            refine bD_ 5 fun K hK => ?_
            go_simp
            refine (numberOf_any _ (k.drop 16) _ (HS.out.kept hB) (by rw [List.length_drop, HK32.out]; decide)).mono ?_
            rintro e wq ⟨s, rfl, hs, hvs, bq⟩
            replace hB := stepB hB bq
            try replace hG5 := hG5.kept bq
            try replace hG6 := hG6.kept bq
            refine hK.out _ _ hB ?_
            clear hK K
            try simp only [Act.put, pA_, pB_, pC_]
            refine bD_ 8 fun K hK => ?_
            have hne56 : g5 ≠ g6 := by omega
            refine wp_store_nm (l := z3) (l2 := r) hB hge5 _ _ rfl rfl rfl hG5 z3_nm hr ?_
            intro wS hG5S hwS hBS
            replace hB := hBS
            replace hG6 := hG6.wrote hwS (by omega)
            refine hK.out _ _ hB ?_
            clear hK K
            try simp only [Act.put, pA_, pB_, pC_]
            refine bD_ 9 fun K hK => ?_
            refine wp_store_nm (l := z3) (l2 := s) hB hge6 _ _ rfl rfl rfl hG6 z3_nm hs ?_
            intro wS2 hG6S hwS2 hBS2
            replace hB := hBS2
            replace hG5S := hG5S.wrote hwS2 (by omega)
            refine hK.out _ _ hB ?_
            clear hK K
            try simp only [Act.put, pA_, pB_, pC_]
            refine wpB_done (by kernel_rfl) ?_
            go_wp2_with fail
            go_meet
            exact ⟨g5, g6, r, s, rfl, rfl, hge5, hge6, hne56, hr, hs, hvr, hvs, hG5S, hG6S, hB⟩
        · refine wp_alloc_nm hB rfl ?_
          intro g6 wA hG6 hge6 hgw6 hbA hBA
          replace hB := hBA
          try have hlt5 := hG5.lt
          try replace hG5 := hG5.kept hbA
          try replace hC := hC.kept hbA
          refine hK.out _ _ hB ?_
          clear hK K
          try simp only [Act.put, pA_, pB_, pC_]
          refine bF_ 5 6 (fun K hK => ?_) (fun K hK => ?_)
          · go_simp
            refine (numberOf_any _ (k.drop 16) _ (HS.out.kept hB) (by rw [List.length_drop, HK32.out]; decide)).mono ?_
            rintro e wq ⟨s, rfl, hs, hvs, bq⟩
            replace hB := stepB hB bq
            try replace hG5 := hG5.kept bq
            try replace hG6 := hG6.kept bq
            refine hK.out _ _ hB ?_
            clear hK K
            try simp only [Act.put, pA_, pB_, pC_]
            refine bD_ 6 fun K hK => ?_
            refine wp_alloc_nm hB rfl ?_
            intro g5 wA hG5 hge5 hgw5 hbA hBA
            replace hB := hBA
            try have hlt6 := hG6.lt
            try replace hG6 := hG6.kept hbA
            try replace hC := hC.kept hbA
            refine hK.out _ _ hB ?_
            clear hK K
            try simp only [Act.put, pA_, pB_, pC_]
            refine bD_ 8 fun K hK => ?_
            have hne56 : g5 ≠ g6 := by omega
            refine wp_store_nm (l := z3) (l2 := r) hB hge5 _ _ rfl rfl rfl hG5 z3_nm hr ?_
            intro wS hG5S hwS hBS
            replace hB := hBS
            replace hG6 := hG6.wrote hwS (by omega)
            refine hK.out _ _ hB ?_
            clear hK K
            try simp only [Act.put, pA_, pB_, pC_]
            refine bD_ 9 fun K hK => ?_
            refine wp_store_nm (l := z3) (l2 := s) hB hge6 _ _ rfl rfl rfl hG6 z3_nm hs ?_
            intro wS2 hG6S hwS2 hBS2
            replace hB := hBS2
            replace hG5S := hG5S.wrote hwS2 (by omega)
            refine hK.out _ _ hB ?_
            clear hK K
            try simp only [Act.put, pA_, pB_, pC_]
            refine wpB_done (by kernel_rfl) ?_
            go_wp2_with fail
            go_meet
            exact ⟨g5, g6, r, s, rfl, rfl, hge5, hge6, hne56, hr, hs, hvr, hvs, hG5S, hG6S, hB⟩
          · refine wp_alloc_nm hB rfl ?_
            intro g5 wA hG5 hge5 hgw5 hbA hBA
            replace hB := hBA
            try have hlt6 := hG6.lt
            try replace hG6 := hG6.kept hbA
            try replace hC := hC.kept hbA
            refine hK.out _ _ hB ?_
            clear hK K
            try simp only [Act.put, pA_, pB_, pC_]
            refine bD_ 5 fun K hK => ?_
            go_simp
            refine (numberOf_any _ (k.drop 16) _ (HS.out.kept hB) (by rw [List.length_drop, HK32.out]; decide)).mono ?_
            rintro e wq ⟨s, rfl, hs, hvs, bq⟩
            replace hB := stepB hB bq
            try replace hG5 := hG5.kept bq
            try replace hG6 := hG6.kept bq
            refine hK.out _ _ hB ?_
            clear hK K
            try simp only [Act.put, pA_, pB_, pC_]
            refine bD_ 8 fun K hK => ?_
            have hne56 : g5 ≠ g6 := by omega
            refine wp_store_nm (l := z3) (l2 := r) hB hge5 _ _ rfl rfl rfl hG5 z3_nm hr ?_
            intro wS hG5S hwS hBS
            replace hB := hBS
            replace hG6 := hG6.wrote hwS (by omega)
            refine hK.out _ _ hB ?_
            clear hK K
            try simp only [Act.put, pA_, pB_, pC_]
            refine bD_ 9 fun K hK => ?_
            refine wp_store_nm (l := z3) (l2 := s) hB hge6 _ _ rfl rfl rfl hG6 z3_nm hs ?_
            intro wS2 hG6S hwS2 hBS2
            replace hB := hBS2
            replace hG5S := hG5S.wrote hwS2 (by omega)
            refine hK.out _ _ hB ?_
            clear hK K
            try simp only [Act.put, pA_, pB_, pC_]
            refine wpB_done (by kernel_rfl) ?_
            go_wp2_with fail
            go_meet
            exact ⟨g5, g6, r, s, rfl, rfl, hge5, hge6, hne56, hr, hs, hvr, hvs, hG5S, hG6S, hB⟩
      · refine wp_alloc_nm hB rfl ?_
        intro g5 wA hG5 hge5 hgw5 hbA hBA
        replace hB := hBA
        try have hlt6 := hG6.lt
        try replace hG6 := hG6.kept hbA
        try replace hC := hC.kept hbA
        refine hK.out _ _ hB ?_
        clear hK K
        try simp only [Act.put, pA_, pB_, pC_]
        refine bF_ 2 7 (fun K hK => ?_) (fun K hK => ?_)
        · go_simp
          refine (numberOf_any _ (clP k) _ hC (by rw [clP_length]; decide)).mono ?_
          rintro e wq ⟨r, rfl, hr, hvr, bq⟩
          replace hB := stepB hB bq
          try replace hG5 := hG5.kept bq
          try replace hG6 := hG6.kept bq
          refine hK.out _ _ hB ?_
          clear hK K
          try simp only [Act.put, pA_, pB_, pC_]
          refine bF_ 5 7 (fun K hK => ?_) (fun K hK => ?_)
          · go_simp
            refine (numberOf_any _ (k.drop 16) _ (HS.out.kept hB) (by rw [List.length_drop, HK32.out]; decide)).mono ?_
            rintro e wq ⟨s, rfl, hs, hvs, bq⟩
            replace hB := stepB hB bq
            try replace hG5 := hG5.kept bq
            try replace hG6 := hG6.kept bq
            refine hK.out _ _ hB ?_
            clear hK K
            try simp only [Act.put, pA_, pB_, pC_]
            refine bD_ 7 fun K hK => ?_
            refine wp_alloc_nm hB rfl ?_
            intro g6 wA hG6 hge6 hgw6 hbA hBA
            replace hB := hBA
            try have hlt5 := hG5.lt
            try replace hG5 := hG5.kept hbA
            try replace hC := hC.kept hbA
            refine hK.out _ _ hB ?_
            clear hK K
            try simp only [Act.put, pA_, pB_, pC_]
            refine bD_ 8 fun K hK => ?_
            have hne56 : g5 ≠ g6 := by omega
            refine wp_store_nm (l := z3) (l2 := r) hB hge5 _ _ rfl rfl rfl hG5 z3_nm hr ?_
            intro wS hG5S hwS hBS
            replace hB := hBS
            replace hG6 := hG6.wrote hwS (by omega)
            refine hK.out _ _ hB ?_
            clear hK K
            try simp only [Act.put, pA_, pB_, pC_]
            refine bD_ 9 fun K hK => ?_
            refine wp_store_nm (l := z3) (l2 := s) hB hge6 _ _ rfl rfl rfl hG6 z3_nm hs ?_
            intro wS2 hG6S hwS2 hBS2
            replace hB := hBS2
            replace hG5S := hG5S.wrote hwS2 (by omega)
            refine hK.out _ _ hB ?_
            clear hK K
            try simp only [Act.put, pA_, pB_, pC_]
            refine wpB_done (by kernel_rfl) ?_
            go_wp2_with fail
            go_meet
            exact ⟨g5, g6, r, s, rfl, rfl, hge5, hge6, hne56, hr, hs, hvr, hvs, hG5S, hG6S, hB⟩
          · refine wp_alloc_nm hB rfl ?_
            intro g6 wA hG6 hge6 hgw6 hbA hBA
            replace hB := hBA
            try have hlt5 := hG5.lt
            try replace hG5 := hG5.kept hbA
            try replace hC := hC.kept hbA
            refine hK.out _ _ hB ?_
            clear hK K
            try simp only [Act.put, pA_, pB_, pC_]
            refine bD_ 5 fun K hK => ?_
            go_simp
            refine (numberOf_any _ (k.drop 16) _ (HS.out.kept hB) (by rw [List.length_drop, HK32.out]; decide)).mono ?_
            rintro e wq ⟨s, rfl, hs, hvs, bq⟩
            replace hB := stepB hB bq
            try replace hG5 := hG5.kept bq
            try replace hG6 := hG6.kept bq
            refine hK.out _ _ hB ?_
            clear hK K
            try simp only [Act.put, pA_, pB_, pC_]
            refine bD_ 8 fun K hK => ?_
            have hne56 : g5 ≠ g6 := by omega
            refine wp_store_nm (l := z3) (l2 := r) hB hge5 _ _ rfl rfl rfl hG5 z3_nm hr ?_
            intro wS hG5S hwS hBS
            replace hB := hBS
            replace hG6 := hG6.wrote hwS (by omega)
            refine hK.out _ _ hB ?_
            clear hK K
            try simp only [Act.put, pA_, pB_, pC_]
            refine bD_ 9 fun K hK => ?_
            refine wp_store_nm (l := z3) (l2 := s) hB hge6 _ _ rfl rfl rfl hG6 z3_nm hs ?_
            intro wS2 hG6S hwS2 hBS2
            replace hB := hBS2
            replace hG5S := hG5S.wrote hwS2 (by omega)
            refine hK.out _ _ hB ?_
            clear hK K
            try simp only [Act.put, pA_, pB_, pC_]
            refine wpB_done (by kernel_rfl) ?_
            go_wp2_with fail
            go_meet
            exact ⟨g5, g6, r, s, rfl, rfl, hge5, hge6, hne56, hr, hs, hvr, hvs, hG5S, hG6S, hB⟩
        · refine wp_alloc_nm hB rfl ?_
          intro g6 wA hG6 hge6 hgw6 hbA hBA
          replace hB := hBA
          try have hlt5 := hG5.lt
          try replace hG5 := hG5.kept hbA
          try replace hC := hC.kept hbA
          refine hK.out _ _ hB ?_
          clear hK K
          try simp only [Act.put, pA_, pB_, pC_]
          refine bD_ 2 fun K hK => ?_
          go_simp
          refine (numberOf_any _ (clP k) _ hC (by rw [clP_length]; decide)).mono ?_
          rintro e wq ⟨r, rfl, hr, hvr, bq⟩
          replace hB := stepB hB bq
          try replace hG5 := hG5.kept bq
          try replace hG6 := hG6.kept bq
          refine hK.out _ _ hB ?_
          clear hK K
          try simp only [Act.put, pA_, pB_, pC_]
          refine bD_ 5 fun K hK => ?_
          go_simp
          refine (numberOf_any _ (k.drop 16) _ (HS.out.kept hB) (by rw [List.length_drop, HK32.out]; decide)).mono ?_
          rintro e wq ⟨s, rfl, hs, hvs, bq⟩
          replace hB := stepB hB bq
          try replace hG5 := hG5.kept bq
          try replace hG6 := hG6.kept bq
          refine hK.out _ _ hB ?_
          clear hK K
          try simp only [Act.put, pA_, pB_, pC_]
          refine bD_ 8 fun K hK => ?_
          have hne56 : g5 ≠ g6 := by omega
          refine wp_store_nm (l := z3) (l2 := r) hB hge5 _ _ rfl rfl rfl hG5 z3_nm hr ?_
          intro wS hG5S hwS hBS
          replace hB := hBS
          replace hG6 := hG6.wrote hwS (by omega)
          refine hK.out _ _ hB ?_
          clear hK K
          try simp only [Act.put, pA_, pB_, pC_]
          refine bD_ 9 fun K hK => ?_
          refine wp_store_nm (l := z3) (l2 := s) hB hge6 _ _ rfl rfl rfl hG6 z3_nm hs ?_
          intro wS2 hG6S hwS2 hBS2
          replace hB := hBS2
          replace hG5S := hG5S.wrote hwS2 (by omega)
          refine hK.out _ _ hB ?_
          clear hK K
          try simp only [Act.put, pA_, pB_, pC_]
          refine wpB_done (by kernel_rfl) ?_
          go_wp2_with fail
          go_meet
          exact ⟨g5, g6, r, s, rfl, rfl, hge5, hge6, hne56, hr, hs, hvr, hvs, hG5S, hG6S, hB⟩
      · refine wp_alloc_nm hB rfl ?_
        intro g6 wA hG6 hge6 hgw6 hbA hBA
        replace hB := hBA
        try have hlt5 := hG5.lt
        try replace hG5 := hG5.kept hbA
        try replace hC := hC.kept hbA
        refine hK.out _ _ hB ?_
        clear hK K
        try simp only [Act.put, pA_, pB_, pC_]
        refine bF_ 2 6 (fun K hK => ?_) (fun K hK => ?_)
        · go_simp
          refine (numberOf_any _ (clP k) _ hC (by rw [clP_length]; decide)).mono ?_
          rintro e wq ⟨r, rfl, hr, hvr, bq⟩
          replace hB := stepB hB bq
          try replace hG5 := hG5.kept bq
          try replace hG6 := hG6.kept bq
          refine hK.out _ _ hB ?_
          clear hK K
          try simp only [Act.put, pA_, pB_, pC_]
          refine bF_ 5 6 (fun K hK => ?_) (fun K hK => ?_)
          · go_simp
            refine (numberOf_any _ (k.drop 16) _ (HS.out.kept hB) (by rw [List.length_drop, HK32.out]; decide)).mono ?_
            rintro e wq ⟨s, rfl, hs, hvs, bq⟩
            replace hB := stepB hB bq
            try replace hG5 := hG5.kept bq
            try replace hG6 := hG6.kept bq
            refine hK.out _ _ hB ?_
            clear hK K
            try simp only [Act.put, pA_, pB_, pC_]
            refine bD_ 6 fun K hK => ?_
            refine wp_alloc_nm hB rfl ?_
            intro g5 wA hG5 hge5 hgw5 hbA hBA
            replace hB := hBA
            try have hlt6 := hG6.lt
            try replace hG6 := hG6.kept hbA
            try replace hC := hC.kept hbA
            refine hK.out _ _ hB ?_
            clear hK K
            try simp only [Act.put, pA_, pB_, pC_]
            refine bD_ 8 fun K hK => ?_
            have hne56 : g5 ≠ g6 := by omega
            refine wp_store_nm (l := z3) (l2 := r) hB hge5 _ _ rfl rfl rfl hG5 z3_nm hr ?_
            intro wS hG5S hwS hBS
            replace hB := hBS
            replace hG6 := hG6.wrote hwS (by omega)
            refine hK.out _ _ hB ?_
            clear hK K
            try simp only [Act.put, pA_, pB_, pC_]
            refine bD_ 9 fun K hK => ?_
            refine wp_store_nm (l := z3) (l2 := s) hB hge6 _ _ rfl rfl rfl hG6 z3_nm hs ?_
            intro wS2 hG6S hwS2 hBS2
            replace hB := hBS2
            replace hG5S := hG5S.wrote hwS2 (by omega)
            refine hK.out _ _ hB ?_
            clear hK K
            try simp only [Act.put, pA_, pB_, pC_]
            refine wpB_done (by kernel_rfl) ?_
            go_wp2_with fail
            go_meet
            exact ⟨g5, g6, r, s, rfl, rfl, hge5, hge6, hne56, hr, hs, hvr, hvs, hG5S, hG6S, hB⟩
          · refine wp_alloc_nm hB rfl ?_
            intro g5 wA hG5 hge5 hgw5 hbA hBA
            replace hB := hBA
            try have hlt6 := hG6.lt
            try replace hG6 := hG6.kept hbA
            try replace hC := hC.kept hbA
            refine hK.out _ _ hB ?_
            clear hK K
            try simp only [Act.put, pA_, pB_, pC_]
            refine bD_ 5 fun K hK => ?_
            go_simp
            refine (numberOf_any _ (k.drop 16) _ (HS.out.kept hB) (by rw [List.length_drop, HK32.out]; decide)).mono ?_
            rintro e wq ⟨s, rfl, hs, hvs, bq⟩
            replace hB := stepB hB bq
            try replace hG5 := hG5.kept bq
            try replace hG6 := hG6.kept bq
            refine hK.out _ _ hB ?_
            clear hK K
            try simp only [Act.put, pA_, pB_, pC_]
            refine bD_ 8 fun K hK => ?_
            have hne56 : g5 ≠ g6 := by omega
            refine wp_store_nm (l := z3) (l2 := r) hB hge5 _ _ rfl rfl rfl hG5 z3_nm hr ?_
            intro wS hG5S hwS hBS
            replace hB := hBS
            replace hG6 := hG6.wrote hwS (by omega)
            refine hK.out _ _ hB ?_
            clear hK K
            try simp only [Act.put, pA_, pB_, pC_]
            refine bD_ 9 fun K hK => ?_
            refine wp_store_nm (l := z3) (l2 := s) hB hge6 _ _ rfl rfl rfl hG6 z3_nm hs ?_
            intro wS2 hG6S hwS2 hBS2
            replace hB := hBS2
            replace hG5S := hG5S.wrote hwS2 (by omega)
            refine hK.out _ _ hB ?_
            clear hK K
            try simp only [Act.put, pA_, pB_, pC_]
            refine wpB_done (by kernel_rfl) ?_
            go_wp2_with fail
            go_meet
            exact ⟨g5, g6, r, s, rfl, rfl, hge5, hge6, hne56, hr, hs, hvr, hvs, hG5S, hG6S, hB⟩
        · refine wp_alloc_nm hB rfl ?_
          intro g5 wA hG5 hge5 hgw5 hbA hBA
          replace hB := hBA
          try have hlt6 := hG6.lt
          try replace hG6 := hG6.kept hbA
          try replace hC := hC.kept hbA
          refine hK.out _ _ hB ?_
          clear hK K
          try simp only [Act.put, pA_, pB_, pC_]
          refine bD_ 2 fun K hK => ?_
          go_simp
          refine (numberOf_any _ (clP k) _ hC (by rw [clP_length]; decide)).mono ?_
          rintro e wq ⟨r, rfl, hr, hvr, bq⟩
          replace hB := stepB hB bq
          try replace hG5 := hG5.kept bq
          try replace hG6 := hG6.kept bq
          refine hK.out _ _ hB ?_
          clear hK K
          try simp only [Act.put, pA_, pB_, pC_]
          refine bD_ 5 fun K hK => ?_
          go_simp
          refine (numberOf_any _ (k.drop 16) _ (HS.out.kept hB) (by rw [List.length_drop, HK32.out]; decide)).mono ?_
          rintro e wq ⟨s, rfl, hs, hvs, bq⟩
          replace hB := stepB hB bq
          try replace hG5 := hG5.kept bq
          try replace hG6 := hG6.kept bq
          refine hK.out _ _ hB ?_
          clear hK K
          try simp only [Act.put, pA_, pB_, pC_]
          refine bD_ 8 fun K hK => ?_
          have hne56 : g5 ≠ g6 := by omega
          refine wp_store_nm (l := z3) (l2 := r) hB hge5 _ _ rfl rfl rfl hG5 z3_nm hr ?_
          intro wS hG5S hwS hBS
          replace hB := hBS
          replace hG6 := hG6.wrote hwS (by omega)
          refine hK.out _ _ hB ?_
          clear hK K
          try simp only [Act.put, pA_, pB_, pC_]
          refine bD_ 9 fun K hK => ?_
          refine wp_store_nm (l := z3) (l2 := s) hB hge6 _ _ rfl rfl rfl hG6 z3_nm hs ?_
          intro wS2 hG6S hwS2 hBS2
          replace hB := hBS2
          replace hG5S := hG5S.wrote hwS2 (by omega)
          refine hK.out _ _ hB ?_
          clear hK K
          try simp only [Act.put, pA_, pB_, pC_]
          refine wpB_done (by kernel_rfl) ?_
          go_wp2_with fail
          go_meet
          exact ⟨g5, g6, r, s, rfl, rfl, hge5, hge6, hne56, hr, hs, hvr, hvs, hG5S, hG6S, hB⟩
    · refine wp_alloc_nm hB rfl ?_
      intro g5 wA hG5 hge5 hgw5 hbA hBA
      replace hB := hBA
      try have hlt6 := hG6.lt
      try replace hG6 := hG6.kept hbA
      try replace hC := hC.kept hbA
      refine hK.out _ _ hB ?_
      clear hK K
      try simp only [Act.put, pA_, pB_, pC_]
      refine bF_ 1 7 (fun K hK => ?_) (fun K hK => ?_)
      · go_simp
        refine (pclamp_any _ k _ (HT.out.kept hB) (HK.out.kept hB) HK32.out).mono ?_
        rintro e wq ⟨vC, rfl, hN1⟩
        have hC := hN1.rd
        replace hB := stepB hB hN1.2
        try replace hG5 := hG5.kept hN1.2
        try replace hG6 := hG6.kept hN1.2
        refine hK.out _ _ hB ?_
        clear hK K
        try simp only [Act.put, pA_, pB_, pC_]
        refine bF_ 2 7 (fun K hK => ?_) (fun K hK => ?_)
        · go_simp
          refine (numberOf_any _ (clP k) _ hC (by rw [clP_length]; decide)).mono ?_
          rintro e wq ⟨r, rfl, hr, hvr, bq⟩
          replace hB := stepB hB bq
          try replace hG5 := hG5.kept bq
          try replace hG6 := hG6.kept bq
          refine hK.out _ _ hB ?_
          clear hK K
          try simp only [Act.put, pA_, pB_, pC_]
          refine bF_ 5 7 (fun K hK => ?_) (fun K hK => ?_)
          · go_simp
            refine (numberOf_any _ (k.drop 16) _ (HS.out.kept hB) (by rw [List.length_drop, HK32.out]; decide)).mono ?_
            rintro e wq ⟨s, rfl, hs, hvs, bq⟩
            replace hB := stepB hB bq
            try replace hG5 := hG5.kept bq
            try replace hG6 := hG6.kept bq
            refine hK.out _ _ hB ?_
            clear hK K
            try simp only [Act.put, pA_, pB_, pC_]
            refine bD_ 7 fun K hK => ?_
            refine wp_alloc_nm hB rfl ?_
            intro g6 wA hG6 hge6 hgw6 hbA hBA
            replace hB := hBA
            try have hlt5 := hG5.lt
            try replace hG5 := hG5.kept hbA
            try replace hC := hC.kept hbA
            refine hK.out _ _ hB ?_
            clear hK K
            try simp only [Act.put, pA_, pB_, pC_]
            refine bD_ 8 fun K hK => ?_
            have hne56 : g5 ≠ g6 := by omega
            refine wp_store_nm (l := z3) (l2 := r) hB hge5 _ _ rfl rfl rfl hG5 z3_nm hr ?_
            intro wS hG5S hwS hBS
            replace hB := hBS
            replace hG6 := hG6.wrote hwS (by omega)
            refine hK.out _ _ hB ?_
            clear hK K
            try simp only [Act.put, pA_, pB_, pC_]
            refine bD_ 9 fun K hK => ?_
            refine wp_store_nm (l := z3) (l2 := s) hB hge6 _ _ rfl rfl rfl hG6 z3_nm hs ?_
            intro wS2 hG6S hwS2 hBS2
            replace hB := hBS2
            replace hG5S := hG5S.wrote hwS2 (by omega)
            refine hK.out _ _ hB ?_
            clear hK K
            try simp only [Act.put, pA_, pB_, pC_]
            refine wpB_done (by kernel_rfl) ?_
            go_wp2_with fail
            go_meet
            exact ⟨g5, g6, r, s, rfl, rfl, hge5, hge6, hne56, hr, hs, hvr, hvs, hG5S, hG6S, hB⟩
          · refine wp_alloc_nm hB rfl ?_
            intro g6 wA hG6 hge6 hgw6 hbA hBA
            replace hB := hBA
            try have hlt5 := hG5.lt
            try replace hG5 := hG5.kept hbA
            try replace hC := hC.kept hbA
            refine hK.out _ _ hB ?_
            clear hK K
            try simp only [Act.put, pA_, pB_, pC_]
            refine bD_ 5 fun K hK => ?_
            go_simp
            refine (numberOf_any _ (k.drop 16) _ (HS.out.kept hB) (by rw [List.length_drop, HK32.out]; decide)).mono ?_
            rintro e wq ⟨s, rfl, hs, hvs, bq⟩
            replace hB := stepB hB bq
            try replace hG5 := hG5.kept bq
            try replace hG6 := hG6.kept bq
            refine hK.out _ _ hB ?_
            clear hK K
            try simp only [Act.put, pA_, pB_, pC_]
            refine bD_ 8 fun K hK => ?_
            have hne56 : g5 ≠ g6 := by omega
            refine wp_store_nm (l := z3) (l2 := r) hB hge5 _ _ rfl rfl rfl hG5 z3_nm hr ?_
            intro wS hG5S hwS hBS
            replace hB := hBS
            replace hG6 := hG6.wrote hwS (by omega)
            refine hK.out _ _ hB ?_
            clear hK K
            try simp only [Act.put, pA_, pB_, pC_]
            refine bD_ 9 fun K hK => ?_
            refine wp_store_nm (l := z3) (l2 := s) hB hge6 _ _ rfl rfl rfl hG6 z3_nm hs ?_
            intro wS2 hG6S hwS2 hBS2
            replace hB := hBS2
            replace hG5S := hG5S.wrote hwS2 (by omega)
            refine hK.out _ _ hB ?_
            clear hK K
            try simp only [Act.put, pA_, pB_, pC_]
            refine wpB_done (by kernel_rfl) ?_
            go_wp2_with fail
            go_meet
            exact ⟨g5, g6, r, s, rfl, rfl, hge5, hge6, hne56, hr, hs, hvr, hvs, hG5S, hG6S, hB⟩
        · refine wp_alloc_nm hB rfl ?_
          intro g6 wA hG6 hge6 hgw6 hbA hBA
          replace hB := hBA
          try have hlt5 := hG5.lt
          try replace hG5 := hG5.kept hbA
          try replace hC := hC.kept hbA
          refine hK.out _ _ hB ?_
          clear hK K
          try simp only [Act.put, pA_, pB_, pC_]
          refine bD_ 2 fun K hK => ?_
          go_simp
          refine (numberOf_any _ (clP k) _ hC (by rw [clP_length]; decide)).mono ?_
          rintro e wq ⟨r, rfl, hr, hvr, bq⟩
          replace hB := stepB hB bq
          try replace hG5 := hG5.kept bq
          try replace hG6 := hG6.kept bq
          refine hK.out _ _ hB ?_
          clear hK K
          try simp only [Act.put, pA_, pB_, pC_]
          refine bD_ 5 fun K hK => ?_
          go_simp
          refine (numberOf_any _ (k.drop 16) _ (HS.out.kept hB) (by rw [List.length_drop, HK32.out]; decide)).mono ?_
          rintro e wq ⟨s, rfl, hs, hvs, bq⟩
          replace hB := stepB hB bq
          try replace hG5 := hG5.kept bq
          try replace hG6 := hG6.kept bq
          refine hK.out _ _ hB ?_
          clear hK K
          try simp only [Act.put, pA_, pB_, pC_]
          refine bD_ 8 fun K hK => ?_
          have hne56 : g5 ≠ g6 := by omega
          refine wp_store_nm (l := z3) (l2 := r) hB hge5 _ _ rfl rfl rfl hG5 z3_nm hr ?_
          intro wS hG5S hwS hBS
          replace hB := hBS
          replace hG6 := hG6.wrote hwS (by omega)
          refine hK.out _ _ hB ?_
          clear hK K
          try simp only [Act.put, pA_, pB_, pC_]
          refine bD_ 9 fun K hK => ?_
          refine wp_store_nm (l := z3) (l2 := s) hB hge6 _ _ rfl rfl rfl hG6 z3_nm hs ?_
          intro wS2 hG6S hwS2 hBS2
          replace hB := hBS2
          replace hG5S := hG5S.wrote hwS2 (by omega)
          refine hK.out _ _ hB ?_
          clear hK K
          try simp only [Act.put, pA_, pB_, pC_]
          refine wpB_done (by kernel_rfl) ?_
          go_wp2_with fail
          go_meet
          exact ⟨g5, g6, r, s, rfl, rfl, hge5, hge6, hne56, hr, hs, hvr, hvs, hG5S, hG6S, hB⟩
      · refine wp_alloc_nm hB rfl ?_
        intro g6 wA hG6 hge6 hgw6 hbA hBA
        replace hB := hBA
        try have hlt5 := hG5.lt
        try replace hG5 := hG5.kept hbA
        try replace hC := hC.kept hbA
        refine hK.out _ _ hB ?_
        clear hK K
        try simp only [Act.put, pA_, pB_, pC_]
        refine bD_ 1 fun K hK => ?_
        go_simp
        refine (pclamp_any _ k _ (HT.out.kept hB) (HK.out.kept hB) HK32.out).mono ?_
        rintro e wq ⟨vC, rfl, hN1⟩
        have hC := hN1.rd
        replace hB := stepB hB hN1.2
        try replace hG5 := hG5.kept hN1.2
        try replace hG6 := hG6.kept hN1.2
        refine hK.out _ _ hB ?_
        clear hK K
        try simp only [Act.put, pA_, pB_, pC_]
        refine bD_ 2 fun K hK => ?_
        go_simp
        refine (numberOf_any _ (clP k) _ hC (by rw [clP_length]; decide)).mono ?_
        rintro e wq ⟨r, rfl, hr, hvr, bq⟩
        replace hB := stepB hB bq
        try replace hG5 := hG5.kept bq
        try replace hG6 := hG6.kept bq
        refine hK.out _ _ hB ?_
        clear hK K
        try simp only [Act.put, pA_, pB_, pC_]
        refine bD_ 5 fun K hK => ?_
        go_simp
        refine (numberOf_any _ (k.drop 16) _ (HS.out.kept hB) (by rw [List.length_drop, HK32.out]; decide)).mono ?_
        rintro e wq ⟨s, rfl, hs, hvs, bq⟩
        replace hB := stepB hB bq
        try replace hG5 := hG5.kept bq
        try replace hG6 := hG6.kept bq
        refine hK.out _ _ hB ?_
        clear hK K
        try simp only [Act.put, pA_, pB_, pC_]
        refine bD_ 8 fun K hK => ?_
        have hne56 : g5 ≠ g6 := by omega
        refine wp_store_nm (l := z3) (l2 := r) hB hge5 _ _ rfl rfl rfl hG5 z3_nm hr ?_
        intro wS hG5S hwS hBS
        replace hB := hBS
        replace hG6 := hG6.wrote hwS (by omega)
        refine hK.out _ _ hB ?_
        clear hK K
        try simp only [Act.put, pA_, pB_, pC_]
        refine bD_ 9 fun K hK => ?_
        refine wp_store_nm (l := z3) (l2 := s) hB hge6 _ _ rfl rfl rfl hG6 z3_nm hs ?_
        intro wS2 hG6S hwS2 hBS2
        replace hB := hBS2
        replace hG5S := hG5S.wrote hwS2 (by omega)
        refine hK.out _ _ hB ?_
        clear hK K
        try simp only [Act.put, pA_, pB_, pC_]
        refine wpB_done (by kernel_rfl) ?_
        go_wp2_with fail
        go_meet
        exact ⟨g5, g6, r, s, rfl, rfl, hge5, hge6, hne56, hr, hs, hvr, hvs, hG5S, hG6S, hB⟩
    · refine wp_alloc_nm hB rfl ?_
      intro g6 wA hG6 hge6 hgw6 hbA hBA
      replace hB := hBA
      try have hlt5 := hG5.lt
      try replace hG5 := hG5.kept hbA
      try replace hC := hC.kept hbA
      refine hK.out _ _ hB ?_
      clear hK K
      try simp only [Act.put, pA_, pB_, pC_]
      refine bF_ 1 6 (fun K hK => ?_) (fun K hK => ?_)
      · go_simp
        refine (pclamp_any _ k _ (HT.out.kept hB) (HK.out.kept hB) HK32.out).mono ?_
        rintro e wq ⟨vC, rfl, hN1⟩
        have hC := hN1.rd
        replace hB := stepB hB hN1.2
        try replace hG5 := hG5.kept hN1.2
        try replace hG6 := hG6.kept hN1.2
        refine hK.out _ _ hB ?_
        clear hK K
        try simp only [Act.put, pA_, pB_, pC_]
        refine bF_ 2 6 (fun K hK => ?_) (fun K hK => ?_)
        · go_simp
          refine (numberOf_any _ (clP k) _ hC (by rw [clP_length]; decide)).mono ?_
          rintro e wq ⟨r, rfl, hr, hvr, bq⟩
          replace hB := stepB hB bq
          try replace hG5 := hG5.kept bq
          try replace hG6 := hG6.kept bq
          refine hK.out _ _ hB ?_
          clear hK K
          try simp only [Act.put, pA_, pB_, pC_]
          refine bF_ 5 6 (fun K hK => ?_) (fun K hK => ?_)
          · go_simp
            refine (numberOf_any _ (k.drop 16) _ (HS.out.kept hB) (by rw [List.length_drop, HK32.out]; decide)).mono ?_
            rintro e wq ⟨s, rfl, hs, hvs, bq⟩
            replace hB := stepB hB bq
            try replace hG5 := hG5.kept bq
            try replace hG6 := hG6.kept bq
            refine hK.out _ _ hB ?_
            clear hK K
            try simp only [Act.put, pA_, pB_, pC_]
            refine bD_ 6 fun K hK => ?_
            refine wp_alloc_nm hB rfl ?_
            intro g5 wA hG5 hge5 hgw5 hbA hBA
            replace hB := hBA
            try have hlt6 := hG6.lt
            try replace hG6 := hG6.kept hbA
            try replace hC := hC.kept hbA
            refine hK.out _ _ hB ?_
            clear hK K
            try simp only [Act.put, pA_, pB_, pC_]
            refine bD_ 8 fun K hK => ?_
            have hne56 : g5 ≠ g6 := by omega
            refine wp_store_nm (l := z3) (l2 := r) hB hge5 _ _ rfl rfl rfl hG5 z3_nm hr ?_
            intro wS hG5S hwS hBS
            replace hB := hBS
            replace hG6 := hG6.wrote hwS (by omega)
            refine hK.out _ _ hB ?_
            clear hK K
            try simp only [Act.put, pA_, pB_, pC_]
            refine bD_ 9 fun K hK => ?_
            refine wp_store_nm (l := z3) (l2 := s) hB hge6 _ _ rfl rfl rfl hG6 z3_nm hs ?_
            intro wS2 hG6S hwS2 hBS2
            replace hB := hBS2
            replace hG5S := hG5S.wrote hwS2 (by omega)
            refine hK.out _ _ hB ?_
            clear hK K
            try simp only [Act.put, pA_, pB_, pC_]
            refine wpB_done (by kernel_rfl) ?_
            go_wp2_with fail
            go_meet
            exact ⟨g5, g6, r, s, rfl, rfl, hge5, hge6, hne56, hr, hs, hvr, hvs, hG5S, hG6S, hB⟩
          · refine wp_alloc_nm hB rfl ?_
            intro g5 wA hG5 hge5 hgw5 hbA hBA
            replace hB := hBA
            try have hlt6 := hG6.lt
            try replace hG6 := hG6.kept hbA
            try replace hC := hC.kept hbA
            refine hK.out _ _ hB ?_
            clear hK K
            try simp only [Act.put, pA_, pB_, pC_]
            refine bD_ 5 fun K hK => ?_
            go_simp
            refine (numberOf_any _ (k.drop 16) _ (HS.out.kept hB) (by rw [List.length_drop, HK32.out]; decide)).mono ?_
            rintro e wq ⟨s, rfl, hs, hvs, bq⟩
            replace hB := stepB hB bq
            try replace hG5 := hG5.kept bq
            try replace hG6 := hG6.kept bq
            refine hK.out _ _ hB ?_
            clear hK K
            try simp only [Act.put, pA_, pB_, pC_]
            refine bD_ 8 fun K hK => ?_
            have hne56 : g5 ≠ g6 := by omega
            refine wp_store_nm (l := z3) (l2 := r) hB hge5 _ _ rfl rfl rfl hG5 z3_nm hr ?_
            intro wS hG5S hwS hBS
            replace hB := hBS
            replace hG6 := hG6.wrote hwS (by omega)
            refine hK.out _ _ hB ?_
            clear hK K
            try simp only [Act.put, pA_, pB_, pC_]
            refine bD_ 9 fun K hK => ?_
            refine wp_store_nm (l := z3) (l2 := s) hB hge6 _ _ rfl rfl rfl hG6 z3_nm hs ?_
            intro wS2 hG6S hwS2 hBS2
            replace hB := hBS2
            replace hG5S := hG5S.wrote hwS2 (by omega)
            refine hK.out _ _ hB ?_
            clear hK K
            try simp only [Act.put, pA_, pB_, pC_]
            refine wpB_done (by kernel_rfl) ?_
            go_wp2_with fail
            go_meet
            exact ⟨g5, g6, r, s, rfl, rfl, hge5, hge6, hne56, hr, hs, hvr, hvs, hG5S, hG6S, hB⟩
        · refine wp_alloc_nm hB rfl ?_
          intro g5 wA hG5 hge5 hgw5 hbA hBA
          replace hB := hBA
          try have hlt6 := hG6.lt
          try replace hG6 := hG6.kept hbA
          try replace hC := hC.kept hbA
          refine hK.out _ _ hB ?_
          clear hK K
          try simp only [Act.put, pA_, pB_, pC_]
          refine bD_ 2 fun K hK => ?_
          go_simp
          refine (numberOf_any _ (clP k) _ hC (by rw [clP_length]; decide)).mono ?_
          rintro e wq ⟨r, rfl, hr, hvr, bq⟩
          replace hB := stepB hB bq
          try replace hG5 := hG5.kept bq
          try replace hG6 := hG6.kept bq
          refine hK.out _ _ hB ?_
          clear hK K
          try simp only [Act.put, pA_, pB_, pC_]
          refine bD_ 5 fun K hK => ?_
          go_simp
          refine (numberOf_any _ (k.drop 16) _ (HS.out.kept hB) (by rw [List.length_drop, HK32.out]; decide)).mono ?_
          rintro e wq ⟨s, rfl, hs, hvs, bq⟩
          replace hB := stepB hB bq
          try replace hG5 := hG5.kept bq
          try replace hG6 := hG6.kept bq
          refine hK.out _ _ hB ?_
          clear hK K
          try simp only [Act.put, pA_, pB_, pC_]
          refine bD_ 8 fun K hK => ?_
          have hne56 : g5 ≠ g6 := by omega
          refine wp_store_nm (l := z3) (l2 := r) hB hge5 _ _ rfl rfl rfl hG5 z3_nm hr ?_
          intro wS hG5S hwS hBS
          replace hB := hBS
          replace hG6 := hG6.wrote hwS (by omega)
          refine hK.out _ _ hB ?_
          clear hK K
          try simp only [Act.put, pA_, pB_, pC_]
          refine bD_ 9 fun K hK => ?_
          refine wp_store_nm (l := z3) (l2 := s) hB hge6 _ _ rfl rfl rfl hG6 z3_nm hs ?_
          intro wS2 hG6S hwS2 hBS2
          replace hB := hBS2
          replace hG5S := hG5S.wrote hwS2 (by omega)
          refine hK.out _ _ hB ?_
          clear hK K
          try simp only [Act.put, pA_, pB_, pC_]
          refine wpB_done (by kernel_rfl) ?_
          go_wp2_with fail
          go_meet
          exact ⟨g5, g6, r, s, rfl, rfl, hge5, hge6, hne56, hr, hs, hvr, hvs, hG5S, hG6S, hB⟩
      · refine wp_alloc_nm hB rfl ?_
        intro g5 wA hG5 hge5 hgw5 hbA hBA
        replace hB := hBA
        try have hlt6 := hG6.lt
        try replace hG6 := hG6.kept hbA
        try replace hC := hC.kept hbA
        refine hK.out _ _ hB ?_
        clear hK K
        try simp only [Act.put, pA_, pB_, pC_]
        refine bD_ 1 fun K hK => ?_
        go_simp
        refine (pclamp_any _ k _ (HT.out.kept hB) (HK.out.kept hB) HK32.out).mono ?_
        rintro e wq ⟨vC, rfl, hN1⟩
        have hC := hN1.rd
        replace hB := stepB hB hN1.2
        try replace hG5 := hG5.kept hN1.2
        try replace hG6 := hG6.kept hN1.2
        refine hK.out _ _ hB ?_
        clear hK K
        try simp only [Act.put, pA_, pB_, pC_]
        refine bD_ 2 fun K hK => ?_
        go_simp
        refine (numberOf_any _ (clP k) _ hC (by rw [clP_length]; decide)).mono ?_
        rintro e wq ⟨r, rfl, hr, hvr, bq⟩
        replace hB := stepB hB bq
        try replace hG5 := hG5.kept bq
        try replace hG6 := hG6.kept bq
        refine hK.out _ _ hB ?_
        clear hK K
        try simp only [Act.put, pA_, pB_, pC_]
        refine bD_ 5 fun K hK => ?_
        go_simp
        refine (numberOf_any _ (k.drop 16) _ (HS.out.kept hB) (by rw [List.length_drop, HK32.out]; decide)).mono ?_
        rintro e wq ⟨s, rfl, hs, hvs, bq⟩
        replace hB := stepB hB bq
        try replace hG5 := hG5.kept bq
        try replace hG6 := hG6.kept bq
        refine hK.out _ _ hB ?_
        clear hK K
        try simp only [Act.put, pA_, pB_, pC_]
        refine bD_ 8 fun K hK => ?_
        have hne56 : g5 ≠ g6 := by omega
        refine wp_store_nm (l := z3) (l2 := r) hB hge5 _ _ rfl rfl rfl hG5 z3_nm hr ?_
        intro wS hG5S hwS hBS
        replace hB := hBS
        replace hG6 := hG6.wrote hwS (by omega)
        refine hK.out _ _ hB ?_
        clear hK K
        try simp only [Act.put, pA_, pB_, pC_]
        refine bD_ 9 fun K hK => ?_
        refine wp_store_nm (l := z3) (l2 := s) hB hge6 _ _ rfl rfl rfl hG6 z3_nm hs ?_
        intro wS2 hG6S hwS2 hBS2
        replace hB := hBS2
        replace hG5S := hG5S.wrote hwS2 (by omega)
        refine hK.out _ _ hB ?_
        clear hK K
        try simp only [Act.put, pA_, pB_, pC_]
        refine wpB_done (by kernel_rfl) ?_
        go_wp2_with fail
        go_meet
        exact ⟨g5, g6, r, s, rfl, rfl, hge5, hge6, hne56, hr, hs, hvr, hvs, hG5S, hG6S, hB⟩
  case rest =>
  obtain ⟨g5, g6, r, s, rfl, rfl, hge5, hge6, hne56, HR, HSn, HVr, HVs, r5, r6, hbw⟩ := hcut
  rename World => W0
  have hg5 := r5.lt
  have hg6 := r6.lt
  go_wp2_with (refine wpList_alloc_row (k := .u64) rfl 124 rfl (nI z3) (alloc_nm _) z3_nm.ne (nmMax z3_nm) ?_)
  intro w2 r7 b2 s2
  rw [z3_nm.len] at r7
  replace r5 := r5.kept b2
  replace r6 := r6.kept b2
  have hszW := hbw.size
  replace hbw := stepB hbw b2
  clear b2 s2
  have HR2 : Hid (wv r < 21267647932558653966460912964485513216) := by
    show _ < _
    rw [HVr.out]
    exact clP_lt k
  go_wp2
  go_loopw [1] (fun v wx => ∃ (j : Nat) (X : List Nat), Rd w v (b.drop (16 * j)) ∧ Hid (j ≤ nblk b.length) ∧ Hid (Nm3 X) ∧ Hid (wv X % p8 = accN (leN (clP k)) b j) ∧ Hid (wv X < 1701411834604692317316873037158841057280) ∧ RowAt .u64 124 g5 3 (nI r) wx ∧ RowAt .u64 124 g6 3 (nI s) wx ∧ RowAt .u64 124 W0.heap.size 3 (nI X) wx ∧ Below w.heap.size w wx) (fun v _ => rowLen8 v)
  case atStart => exact ⟨0, z3, by rw [Nat.mul_zero, List.drop_zero]; exact HB.out, Nat.zero_le _, z3_nm, (by show _ = _; rw [z3_wv]; rfl), (by show _ < _; rw [z3_wv]; decide), r5, r6, r7, hbw⟩
  case round =>
    obtain ⟨j, X, hRb, HJ, HX, HV, HBd, r5', r6', r7', hbx⟩ := hrel
    clear r5 r6 r7 hbw
    obtain ⟨ab, cb, rfl, hcb, hmb, hnone, -⟩ := id hRb
    obtain ⟨L, hL⟩ : ∃ L : Nat, L = (b.drop (16 * j)).length := ⟨_, rfl⟩
    rw [← hL] at hcb hRb ⊢
    have HL : Hid _ := hL
    have hmb2 := hmb
    unfold maxLen at hmb2
    by_cases hlt : 0 < L
    · have hd : decide ((0 : Int) < (L : Int)) = true := decide_eq_true (by omega)
      have hLI : (0 : Int) < (L : Int) := by omega
      obtain ⟨m, hm⟩ : ∃ m : Nat, m = min L 16 := ⟨_, rfl⟩
      have hmin : (if (16 : Int) < (L : Int) then (16 : Int) else (L : Int)) = (m : Int) := by split <;> omega
      obtain ⟨hd1, hd2⟩ := drop_more b j m L hL hm
      obtain ⟨ab', htail, hrest⟩ := exec_tail (ab := ab) (m := m) (show m ≤ L by omega) hcb hmb hnone
      have hhead := hRb.take (n := m) (by omega)
      rw [hd2] at hhead
      have HHead : Hid (Rd w (.slice ab m cb) ((b.drop (16 * j)).take 16)) := hhead
      have HExH : Hid (m ≤ L ∧ L ≤ cb ∧ cb ≤ maxLen ∧ (ab = none → cb = 0)) := ⟨by omega, hcb, hmb, hnone⟩
      have HRest : Hid (Rd w (.slice ab' (L - m) (cb - m)) (b.drop (16 * (j + 1)))) := by
        rw [← hd1]
        exact hrest _ _ hRb
      have HBk : Hid (leN ((b.drop (16 * j)).take 16) + 256 ^ ((b.drop (16 * j)).take 16).length = blkN b j) := by show _ = _; rfl
      have HBl : Hid (((b.drop (16 * j)).take 16).length ≤ 16) := by show _ ≤ _; rw [List.length_take]; exact Nat.min_le_left _ _
      have HAc : Hid _ := acc_bound (wv X) (blkN b j) (wv r) HBd.out (blkN_lt b j) HR2.out
      have HJ2 : Hid (j + 1 ≤ nblk b.length) := by
        rw [List.length_drop] at hL
        show _ ≤ _
        unfold nblk
        omega
      have HMs : Hid (L - m < L) := by show _ < _; omega
      have HT2 : Hid _ := @htail
      clear hRb hL hd1 hd2 hm hrest hhead htail hcb hmb hnone
      go_wp2_with fail
      refine wpE_begin 8 (by kernel_rfl) ?_
      refine eU_ 0 rfl ⟨_, by intro W hW; refine Eq.trans (exec_load_row 124 _ (by rfl) (by rfl) r7' hW _ Tryd.underlying124 rfl (nmInfo HX.out)) ?_; with_reducible rfl, ?_⟩
      try simp only [Act.put, pA_, pB_, pC_]
      refine eU_ 1 rfl ⟨_, by intro W hW; go_simp <;> with_reducible rfl, ?_⟩
      try simp only [Act.put, pA_, pB_, pC_]
      refine eU_ 2 rfl ⟨_, by intro W hW; go_simp <;> with_reducible rfl, ?_⟩
      try simp only [Act.put, pA_, pB_, pC_]
      refine eU_ 3 rfl ⟨_, by intro W hW; refine Eq.trans (exec_head _ _ (by rfl) (by rfl) (by rfl) HExH.out.1 HExH.out.2.1 HExH.out.2.2.1 HExH.out.2.2.2) ?_; with_reducible rfl, ?_⟩
      try simp only [Act.put, pA_, pB_, pC_]
      refine eU_ 6 rfl ⟨_, by intro W hW; refine Eq.trans (exec_load_row 124 _ (by rfl) (by rfl) r5' hW _ Tryd.underlying124 rfl (nmInfo HR.out)) ?_; with_reducible rfl, ?_⟩
      try simp only [Act.put, pA_, pB_, pC_]
      refine eD_ 4 fun K hK => ?_
      go_simp
      refine (pieceOf_any _ _ _ (HHead.out.kept hbx).drew HBl.out).mono ?_
      rintro e wp ⟨xp, rfl, hxp, hvp, bp⟩
      rw [HBk.out] at hvp
      refine hK.out _ _ bp ?_
      clear hK K
      try simp only [Act.put, pA_, pB_, pC_]
      refine eD_ 5 fun K hK => ?_
      go_simp
      refine (plus_any _ _ X xp HX.out hxp (by rw [hvp]; have := HAc.out.1; omega) rfl rfl _).mono ?_
      rintro e wq ⟨xq, rfl, hxq, hvq, bq⟩
      rw [hvp] at hvq
      refine hK.out _ _ bq ?_
      clear hK K
      try simp only [Act.put, pA_, pB_, pC_]
      refine eD_ 7 fun K hK => ?_
      go_simp
      refine (ptimes_any _ _ xq r hxq HR.out (by have := HR2.out; omega) (by rw [hvq]; exact HAc.out.2) rfl rfl _).mono ?_
      rintro e wm ⟨xm, rfl, hxm, hvm, bm⟩
      rw [hvq] at hvm
      refine hK.out _ _ bm ?_
      clear hK K
      try simp only [Act.put, pA_, pB_, pC_]
      refine eL_ fun K hK => ?_
      refine wp_store_row 124 _ _ rfl (nI xm) rfl rfl (((r7'.drew.kept bp).kept bq).kept bm) (by rw [HX.out.len, hxm.len]) (nmInfo HX.out) ?_
      intro wS rS hwS
      refine hK.out _ _ ?_
      clear hK K
      try simp only [Act.put, pA_, pB_, pC_]
      have bS : Below wr.heap.size wr wm := stepB (stepB (stepB (Below.refl _ _).drew bp) bq) bm
      have hbn := hwS.below _ _ (by omega) (stepB hbx bS)
      replace r5' := (r5'.kept bS).wrote hwS (by omega)
      replace r6' := (r6'.kept bS).wrote hwS (by omega)
      have HVn : Hid (wv xm % p8 = accN (leN (clP k)) b (j + 1)) := by
        show _ = _
        rw [hvm, HVr.out]
        exact acc_step _ b j _ HV.out
      have HBn : Hid (wv xm < 1701411834604692317316873037158841057280) := by
        show _ < _
        rw [hvm]
        exact fold8_bound _ HAc.out.2
      have HXn : Hid (Nm3 xm) := hxm
      clear hvm hxm hvq hxq hvp hxp bp bq bm bS hwS r7' hbx HHead HBk HBl HAc HV HBd HX
      go_wp2_with (refine wpList_val rfl (HT2.out _ _ rfl rfl rfl) ?_)
      go_roundw
      case rel => exact ⟨j + 1, xm, HRest.out, HJ2, HXn, HVn, HBn, r5', r6', rS, hbn⟩
      case measure => exact HMs.out
    · have hd : decide ((0 : Int) < (L : Int)) = false := decide_eq_false (by omega)
      have hLI : (L : Int) ≤ 0 := by omega
      have hjn : j = nblk b.length := by
        have h1 := HJ.out
        rw [List.length_drop] at hL
        unfold nblk at h1 ⊢
        omega
      have HAcc : Hid (wv X % p8 = accN (leN (clP k)) b (nblk b.length)) := by rw [← hjn]; exact HV.out
      clear hjn hL HL HV HJ hRb hcb hmb hnone
      go_wp2_with fail
      refine wpE_begin 4 (by kernel_rfl) ?_
      refine eU_ 0 rfl ⟨_, by intro W hW; refine Eq.trans (exec_load_row 124 _ (by rfl) (by rfl) r7' hW _ Tryd.underlying124 rfl (nmInfo HX.out)) ?_; with_reducible rfl, ?_⟩
      try simp only [Act.put, pA_, pB_, pC_]
      refine eU_ 2 rfl ⟨_, by intro W hW; refine Eq.trans (exec_load_row 124 _ (by rfl) (by rfl) r6' hW _ Tryd.underlying124 rfl (nmInfo HSn.out)) ?_; with_reducible rfl, ?_⟩
      try simp only [Act.put, pA_, pB_, pC_]
      refine eD_ 1 fun K hK => ?_
      go_simp
      refine (prest_any _ X HX.out HBd.out rfl _).mono ?_
      rintro e wp ⟨xp, rfl, hxp, hvp, bp⟩
      rw [HAcc.out] at hvp
      refine hK.out _ _ bp ?_
      clear hK K
      try simp only [Act.put, pA_, pB_, pC_]
      refine eD_ 3 fun K hK => ?_
      go_simp
      refine (plus_any _ _ xp s hxp HSn.out (by rw [hvp, HVs.out]; exact mac_sum_lt k b HK32.out) rfl rfl _).mono ?_
      rintro e wq ⟨xq, rfl, hxq, hvq, bq⟩
      rw [hvp, HVs.out] at hvq
      refine hK.out _ _ bq ?_
      clear hK K
      try simp only [Act.put, pA_, pB_, pC_]
      refine eL_ fun K hK => ?_
      refine wp_store_row 124 _ _ rfl (nI xq) rfl rfl ((r7'.drew.kept bp).kept bq) (by rw [HX.out.len, hxq.len]) (nmInfo HX.out) ?_
      intro wS rS hwS
      refine hK.out _ _ ?_
      clear hK K
      try simp only [Act.put, pA_, pB_, pC_]
      have bS : Below wr.heap.size wr wq := stepB (stepB (Below.refl _ _).drew bp) bq
      have hbn := hwS.below _ _ (by omega) (stepB hbx bS)
      have k0 := rS.cell (j := 0) (by rw [hxq.len]; decide)
      have k1 := rS.cell (j := 1) (by rw [hxq.len]; decide)
      rw [nI_get] at k0 k1
      have HFin : Hid ((List.range 8).map (stB (xq.getD 0 0)) ++ (List.range 8).map (stB (xq.getD 1 0)) = mcP k b) := by
        show _ = _
        rw [bytes_wv hxq, hvq]
        exact (mcP_eq k b HK32.out).symm
      generalize xq.getD 0 0 = p0 at k0 HFin
      generalize xq.getD 1 0 = p1 at k1 HFin
      obtain ⟨la, hla⟩ : ∃ l : List UInt8, l = (List.range 8).map (stB p0) := ⟨_, rfl⟩
      obtain ⟨lb, hlb⟩ : ∃ l : List UInt8, l = (List.range 8).map (stB p1) := ⟨_, rfl⟩
      have HLen : Hid (la.length = 8 ∧ lb.length = 8) := ⟨by rw [hla]; simp, by rw [hlb]; simp⟩
      rw [← hla, ← hlb] at HFin
      have HLA : Hid _ := hla
      have HLB : Hid _ := hlb
      clear hla hlb
      clear hvq hxq hvp hxp bp bq bS hwS r5' r6' r7' hbx HBd HX HAcc rS
      go_wp2_with fail
      refine wpG_begin (by kernel_rfl) ?_
      refine gU_ 0 rfl ⟨_, by intro W hW; go_simp <;> with_reducible rfl, ?_⟩
      try simp only [Act.put, pA_, pB_, pC_]
      refine gU_ 1 rfl ⟨_, by intro W hW; have hcW := cellU k0 hW; go_simp <;> with_reducible rfl, ?_⟩
      try simp only [Act.put, pA_, pB_, pC_]
      refine gU_ 3 rfl ⟨_, by intro W hW; go_simp <;> with_reducible rfl, ?_⟩
      try simp only [Act.put, pA_, pB_, pC_]
      refine gU_ 4 rfl ⟨_, by intro W hW; have hcW := cellK k1 (stepB (Below.refl _ _).drew hW); go_simp <;> with_reducible rfl, ?_⟩
      try simp only [Act.put, pA_, pB_, pC_]
      refine gD_ 2 fun K hK => ?_
      go_simp
      refine (store_k p0 8 8 (by omega) (.inr (.inl ⟨by omega, by omega, rfl⟩)) _).mono ?_
      rintro e wa ⟨va, rfl, hNa⟩
      rw [← HLA.out] at hNa
      refine hK.out _ _ hNa.2 ?_
      clear hK K
      try simp only [Act.put, pA_, pB_, pC_]
      refine gD_ 5 fun K hK => ?_
      go_simp
      refine (store_k p1 8 8 (by omega) (.inr (.inl ⟨by omega, by omega, rfl⟩)) _).mono ?_
      rintro e wb ⟨vb2, rfl, hNb⟩
      rw [← HLB.out] at hNb
      refine hK.out _ _ hNb.2 ?_
      clear hK K
      have hRa := hNa.rd.kept hNb.2
      have hRb := hNb.rd
      obtain ⟨a1, c1, rfl, -, -, -, -⟩ := id hRa
      obtain ⟨a2, c2, rfl, -, -, -, -⟩ := id hRb
      have hL2 := RdL.pair8 (e := 40) rfl hRa hRb
      have g2 := growB (w := wb) (.cells #[.slice a1 la.length c1, .slice a2 lb.length c2] 40)
      try simp only [Act.put, pA_, pB_, pC_]
      refine gD_ 6 fun K hK => ?_
      go_simp
      refine hK.out _ _ g2 ?_
      clear hK K
      try simp only [Act.put, pA_, pB_, pC_]
      refine gD_ 7 fun K hK => ?_
      go_simp
      refine (join_any _ _ _ _ hL2 (by have := HLen.out; simp [totL]; omega)).mono ?_
      rintro e wj ⟨vj, rfl, hNj⟩
      refine hK.out _ _ hNj.2 ?_
      clear hK K
      try simp only [Act.put, pA_, pB_, pC_]
      refine gU_ 8 rfl ⟨_, by intro W hW; go_simp <;> with_reducible rfl, ?_⟩
      try simp only [Act.put, pA_, pB_, pC_]
      refine wpG_done (by kernel_rfl) ?_
      go_wp2
      go_ret
      refine ⟨_, rfl, ?_⟩
      have hNj2 := hNj.pair8
      rw [HFin.out] at hNj2
      exact hNj2.from (stepB (stepB (stepB hbn.drew hNa.2) hNb.2) g2)
end Go.Proofs.YtliiofjcghdjoaaDoor

/- What a block and a stream are: contracts of package chacha, fourth part. -/
namespace Go.Proofs.YtliiofjcghdjoaaDoor
open Go.ChangeShapes Go.WideShapes Go.ChangeAt Go.RowKit
set_option linter.unusedSimpArgs false
set_option linter.unusedVariables false

/-- A state's block. -/
def bkS (l : List Nat) : List UInt8 := wB (fun i => ((qDbl l 10).getD i 0 + l.getD i 0) % 4294967296) 16
theorem bkS_bkL (k : List UInt8) (c : Nat) (n : List UInt8) : bkS (bkW k c n) = bkL k c n := rfl

set_option maxRecDepth 100000 in
set_option maxHeartbeats 4000000 in
theorem sblock_any (A : Array Value) (l : List Nat) (hl : W16 l) (hA : A = ((nI l).map (Value.int .u32)).toArray) (w : World) (hT : PlT w) :
    Calls Tryd.prog 67 #[.agg A] w fun e w' => ∃ r, e = .returned r ∧ New 5 w r (bkS l) w' := by
  obtain ⟨ti, hti, hz0, hz1, hz2⟩ := info_parts info5
  have HT : Hid (PlT w) := hT
  have HW : Hid (W16 l) := hl
  go_enter Tryd.func67, Tryd.ntmps67
  go_wp2_with (refine wpList_box_row (k := .u32) rfl 112 _ rfl (nI l) (by rw [← hA]; rfl) hl.ne (wdMax hl) ?_)
  intro w1 r1 b1 s1
  rw [hl.len] at r1
  have n1 : w.heap.size < w1.heap.size := by have := s1.out; omega
  clear hT hA
  go_wp2_with (refine wpList_load_row rfl 112 _ rfl rfl r1 _ Tryd.underlying112 rfl (wdInfo hl) ?_)
  refine (mixed_any _ l hl rfl _ (HT.out.kept b1)).mono ?_
  rintro e w2 ⟨rfl, b2⟩
  have hV : W16 (qDbl l 10) := qDbl_ok hl 10
  have HF : Hid (bkS l = wB (fun i => ((qDbl l 10).getD i 0 + l.getD i 0) % 4294967296) 16) := by show _ = _; rfl
  generalize qDbl l 10 = V at hV HF ⊢
  replace r1 := r1.kept b2
  have hbw := stepB b1 b2
  have n2 := b2.size
  clear b1 b2 s1
  go_wp2_with (refine wpList_alloc_row (k := .u32) rfl 112 rfl (nI z16) (alloc_wd _) z16_ok.ne (wdMax z16_ok) ?_)
  intro w3 r3 b3 s3
  rw [z16_ok.len] at r3
  replace r1 := r1.kept b3
  replace hbw := stepB hbw b3
  clear b3 s3
  go_wp2_with (refine wpList_store_row rfl 112 _ _ rfl (nI V) rfl rfl r3 (by rw [z16_ok.len, hV.len]) (wdInfo z16_ok) ?_)
  intro w4 r4 hw4
  replace r1 := r1.wrote hw4 (by omega)
  replace hbw := hw4.below _ _ (by omega) hbw
  clear r3 hw4
  have hcv : ∀ j, j < 16 → w4.cell? ⟨w2.heap.size, j, none⟩ = some (.int .u32 ((V.getD j 0 : Nat) : Int)) := fun j hj => by
    have := r4.cell (j := j) (by rw [hV.len]; exact hj)
    rw [nI_get] at this
    exact this
  have hcw : ∀ j, j < 16 → w4.cell? ⟨w.heap.size, j, none⟩ = some (.int .u32 ((l.getD j 0 : Nat) : Int)) := fun j hj => by
    have := r1.cell (j := j) (by rw [hl.len]; exact hj)
    rw [nI_get] at this
    exact this
  have HCV : Hid _ := hcv
  have HCW : Hid _ := hcw
  have HV : Hid (W16 V) := hV
  clear hcv hcw r1 r4 hl hV
  go_wp2_with (at_make; go_must (refine wpList_make_own _ rfl _ _ 40 rfl w4.heap.size 5 ti _ 1 Tryd.underlying40 hti hz0 hz1 _ _ _ 64 rfl rfl rfl (by rw [hz2]; omega) (by unfold maxLen; omega) (Nat.le_refl _) ?_))
  intro w5 hown hgr
  have hN0 : New 5 w4 _ (wB (fun i => (V.getD i 0 + l.getD i 0) % 4294967296) 0) w5 := ⟨hown, (Below.refl _ _).grown hgr (Nat.le_refl _) (by simp)⟩
  clear hown hgr
  go_wp2
  go_loopw [4, 9] (fun v iv wx => ∃ i : Nat, i ≤ 16 ∧ iv = .int .i64 (i : Int) ∧ New 5 w4 v (wB (fun i => (V.getD i 0 + l.getD i 0) % 4294967296) i) wx) (fun _ iv _ => 16 - (intOf iv).toNat)
  case atStart => exact ⟨0, by omega, rfl, hN0⟩
  case round =>
    obtain ⟨i, hi, rfl, hN⟩ := hrel
    clear hN0
    by_cases hlt : i < 16
    · have hd : decide ((i : Int) < 16) = true := decide_eq_true (by omega)
      have hiI : (i : Int) < 16 := by omega
      have cv1 := HCV.out i hlt
      have cw1 := HCW.out i hlt
      have b1 := HV.out.get i
      have b2 := HW.out.get i
      obtain ⟨z, hz⟩ : ∃ z : Nat, z = (V.getD i 0 + l.getD i 0) % 4294967296 := ⟨_, rfl⟩
      have HNx : Hid (wB (fun i => (V.getD i 0 + l.getD i 0) % 4294967296) i ++ (List.range 4).map (stB z) = wB (fun i => (V.getD i 0 + l.getD i 0) % 4294967296) (i + 1)) := by
        show _ = _
        rw [hz]
        rfl
      have HLn : Hid ((wB (fun i => (V.getD i 0 + l.getD i 0) % 4294967296) i).length ≤ 100) := by
        show _ ≤ _
        rw [wB_length]
        omega
      generalize wB (fun i => (V.getD i 0 + l.getD i 0) % 4294967296) i = L0 at hN HNx HLn
      obtain ⟨L1, hL1⟩ : ∃ L : List UInt8, L = wB (fun i => (V.getD i 0 + l.getD i 0) % 4294967296) (i + 1) := ⟨_, rfl⟩
      rw [← hL1] at HNx
      have HL1 : Hid _ := hL1
      clear hL1
      generalize V.getD i 0 = p at cv1 b1 hz
      generalize l.getD i 0 = q at cw1 b2 hz
      have e1 : IntKind.u32.wrap ((p : Int) + (q : Int)) = (z : Int) := by rw [IntKind.wrap_u32']; omega
      have e2 : ((p : Int) + (q : Int)) % 4294967296 = (z : Int) := by omega
      have e3 : IntKind.u64.wrap (z : Int) = (z : Int) := by rw [IntKind.wrap_u64]; omega
      obtain ⟨zs, hzs⟩ : ∃ zs : List UInt8, zs = (List.range 4).map (stB z) := ⟨_, rfl⟩
      have hzl4 : zs.length = 4 := by rw [hzs]; simp
      rw [← hzs] at HNx
      have HZS : Hid _ := hzs
      have HZ4 : Hid _ := hzl4
      clear hz hzs hzl4
      go_wp2_with fail
      refine wpB_begin hN.2 (by kernel_rfl) ?_
      refine bU_ (Below.drew hN.2) 0 rfl ⟨_, by intro W hW; go_simp <;> with_reducible rfl, ?_⟩
      try simp only [Act.put, pA_, pB_, pC_]
      refine bU_ (Below.drew hN.2) 1 rfl ⟨_, by intro W hW; go_simp <;> with_reducible rfl, ?_⟩
      try simp only [Act.put, pA_, pB_, pC_]
      refine bU_ (Below.drew hN.2) 2 rfl ⟨_, by intro W hW; go_simp <;> with_reducible rfl, ?_⟩
      try simp only [Act.put, pA_, pB_, pC_]
      refine bU_ (Below.drew hN.2) 3 rfl ⟨_, by intro W hW; have hcW := cellK0 cv1 hW; go_simp <;> with_reducible rfl, ?_⟩
      try simp only [Act.put, pA_, pB_, pC_]
      refine bU_ (Below.drew hN.2) 4 rfl ⟨_, by intro W hW; go_simp <;> with_reducible rfl, ?_⟩
      try simp only [Act.put, pA_, pB_, pC_]
      refine bU_ (Below.drew hN.2) 5 rfl ⟨_, by intro W hW; go_simp <;> with_reducible rfl, ?_⟩
      try simp only [Act.put, pA_, pB_, pC_]
      refine bU_ (Below.drew hN.2) 6 rfl ⟨_, by intro W hW; have hcW := cellK0 cw1 hW; go_simp <;> with_reducible rfl, ?_⟩
      try simp only [Act.put, pA_, pB_, pC_]
      refine bU_ (Below.drew hN.2) 7 rfl ⟨_, by intro W hW; go_simp <;> with_reducible rfl, ?_⟩
      try simp only [Act.put, pA_, pB_, pC_]
      refine bU_ (Below.drew hN.2) 8 rfl ⟨_, by intro W hW; go_simp <;> with_reducible rfl, ?_⟩
      try simp only [Act.put, pA_, pB_, pC_]
      refine bD_ 9 fun K hK => ?_
      go_simp
      refine (store_k z 4 4 (by omega) (.inr (.inl ⟨by omega, by omega, rfl⟩)) _).mono ?_
      rintro e w5 ⟨v5, rfl, hN5⟩
      have hR5 := hN5.rd
      rw [← HZS.out] at hR5
      have hN6 := hN.drew.kept hN5.2
      refine hK.out _ _ hN6.2 ?_
      clear hK K
      try simp only [Act.put, pA_, pB_, pC_]
      refine bD_ 10 fun K hK => ?_
      refine wp_append_new (w := w4) _ _ 40 (by rfl) 5 Tryd.underlying40 info5 _ _ (by rfl) hN6 _ _ (by rfl) hR5 (by have := HLn.out; rw [HZ4.out]; omega) ?_
      intro v7 w7 hN7 _
      rw [HNx.out] at hN7
      refine hK.out _ _ hN7.2 ?_
      clear hK K
      try simp only [Act.put, pA_, pB_, pC_]
      refine bU_ (hN7.2) 11 rfl ⟨_, by intro W hW; go_simp <;> with_reducible rfl, ?_⟩
      try simp only [Act.put, pA_, pB_, pC_]
      refine wpB_done (by kernel_rfl) ?_
      rw [HL1.out] at hN7
      clear hN hN5 hN6 hR5 cv1 cw1
      go_wp2
      go_roundw
      case rel => exact ⟨i + 1, by omega, by go_num, hN7⟩
      case measure => simp [intOf] <;> omega
    · have hie : i = 16 := by omega
      have hd : decide ((i : Int) < 16) = false := decide_eq_false (by omega)
      have hiI : (16 : Int) ≤ (i : Int) := by omega
      rw [hie, ← HF.out] at hN
      clear hie
      go_wp2
      go_ret
      exact ⟨_, rfl, hN.from hbw⟩

set_option maxRecDepth 100000 in
set_option maxHeartbeats 2000000 in
theorem block_arg (vk vn : Value) (k n : List UInt8) (C : Int) (w : World) (hk : Rd w vk k) (hn : Rd w vn n) (h : ¬ (k.length = 32 ∧ n.length = 12)) :
    Calls Tryd.prog 68 #[vk, .int .u32 C, vn] w fun e w' => e = .returned (.slice none 0 0) ∧ w' = w := by
  have hd : decide (k.length = 32 ∧ n.length = 12) = false := decide_eq_false h
  have HD : Hid _ := hd
  have HK : Hid _ := hk
  have HN : Hid _ := hn
  clear hd h hk hn
  go_enter Tryd.func68, Tryd.ntmps68
  go_wp2_with fail
  refine (fit_any _ _ k n _ HK.out HN.out).mono ?_
  rintro e w2 ⟨rfl, rfl⟩
  rw [HD.out]
  go_wp2
  go_ret
  exact ⟨rfl, rfl⟩

set_option maxRecDepth 100000 in
set_option maxHeartbeats 2000000 in
theorem block_any (vk vn : Value) (k n : List UInt8) (c : Nat) (C : Int) (hC : C = (c : Int)) (hc : c < 4294967296) (w : World) (hT : PlT w) (hk : Rd w vk k) (hn : Rd w vn n) (hk32 : k.length = 32) (hn12 : n.length = 12) :
    Calls Tryd.prog 68 #[vk, .int .u32 C, vn] w fun e w' => ∃ r, e = .returned r ∧ New 5 w r (bkL k c n) w' := by
  subst hC
  have HD : Hid (decide (k.length = 32 ∧ n.length = 12) = true) := decide_eq_true ⟨hk32, hn12⟩
  have HK : Hid _ := hk
  have HN : Hid _ := hn
  have H1 : Hid _ := hk32
  have H2 : Hid _ := hn12
  have HT : Hid (PlT w) := hT
  have HC : Hid _ := hc
  clear hk hn hk32 hn12 hT hc
  go_enter Tryd.func68, Tryd.ntmps68
  go_wp2_with fail
  refine (fit_any _ _ k n _ HK.out HN.out).mono ?_
  rintro e w2 ⟨rfl, rfl⟩
  rw [HD.out]
  go_wp2_with fail
  refine (start_any _ _ k n c _ rfl HC.out _ HK.out HN.out H1.out H2.out).mono ?_
  rintro e w2 ⟨rfl, b2⟩
  go_wp2_with fail
  refine (sblock_any _ (bkW k c n) (bkW_ok k c n) rfl _ (PlT.kept HT.out b2)).mono ?_
  rintro e w3 ⟨r, rfl, hN⟩
  rw [bkS_bkL] at hN
  go_wp2
  go_ret
  exact ⟨_, rfl, hN.from b2⟩

/-! ### Streams -/
def rowLen : Value → Nat
  | .slice _ n _ => n
  | _ => 0
theorem smP_block (key : List UInt8) (c : Nat) (nonce b : List UInt8) (j : Nat) (h : 64 * j ≤ b.length) :
    smP key c nonce b (64 * j) ++ xorL (b.drop (64 * j)) (bkL key (c + j) nonce) = smP key c nonce b (min (64 * (j + 1)) b.length) := by
  refine ext_getD (by rw [List.length_append, smP_length, smP_length, xorL_length, List.length_drop, bkL_length]; omega) fun i hi => ?_
  rw [List.length_append, smP_length, xorL_length, List.length_drop, bkL_length] at hi
  rw [getD_append, smP_length]
  have hm : i < min (64 * (j + 1)) b.length := by omega
  have e2 : (smP key c nonce b (min (64 * (j + 1)) b.length)).getD i 0 = b.getD i 0 ^^^ ksB key c nonce i := by
    unfold smP
    simp only [List.getD_eq_getElem?_getD, List.getElem?_map]
    rw [List.getElem?_range hm]
    simp
  rw [e2]
  split
  · rename_i h3
    unfold smP
    simp only [List.getD_eq_getElem?_getD, List.getElem?_map]
    rw [List.getElem?_range h3]
    simp
  · rename_i h3
    have e3 : (xorL (b.drop (64 * j)) (bkL key (c + j) nonce)).getD (i - 64 * j) 0 = (b.drop (64 * j)).getD (i - 64 * j) 0 ^^^ (bkL key (c + j) nonce).getD (i - 64 * j) 0 := by
      unfold xorL
      have hx : i - 64 * j < min (b.drop (64 * j)).length (bkL key (c + j) nonce).length := by rw [List.length_drop, bkL_length]; omega
      simp only [List.getD_eq_getElem?_getD, List.getElem?_map]
      rw [List.getElem?_range hx]
      simp
    have a1 : (b.drop (64 * j)).getD (i - 64 * j) 0 = b.getD i 0 := by
      have : 64 * j + (i - 64 * j) = i := by omega
      simp [this]
    have a2 : (bkL key (c + j) nonce).getD (i - 64 * j) 0 = ksB key c nonce i := by
      unfold ksB
      rw [show i / 64 = j by omega, show i % 64 = i - 64 * j by omega]
    rw [e3, a1, a2]
theorem bkW_next (k : List UInt8) (c : Nat) (n : List UInt8) : (bkW k c n).set 12 ((c + 1) % 4294967296) = bkW k (c + 1) n := rfl
theorem bkW_count (k : List UInt8) (c : Nat) (n : List UInt8) : (bkW k c n).getD 12 0 = c % 4294967296 := rfl

set_option maxRecDepth 100000 in
set_option maxHeartbeats 2000000 in
theorem stream_arg (vk vn vb : Value) (k n : List UInt8) (C : Int) (w : World) (hk : Rd w vk k) (hn : Rd w vn n) (h : ¬ (k.length = 32 ∧ n.length = 12)) :
    Calls Tryd.prog 56 #[vk, .int .u32 C, vn, vb] w fun e w' => e = .returned (.slice none 0 0) ∧ w' = w := by
  have hd : decide (k.length = 32 ∧ n.length = 12) = false := decide_eq_false h
  have HD : Hid _ := hd
  have HK : Hid _ := hk
  have HN : Hid _ := hn
  clear hd h hk hn
  go_enter Tryd.func56, Tryd.ntmps56
  go_wp2_with fail
  refine (fit_any _ _ k n _ HK.out HN.out).mono ?_
  rintro e w2 ⟨rfl, rfl⟩
  rw [HD.out]
  go_wp2
  go_ret
  exact ⟨rfl, rfl⟩

set_option maxRecDepth 100000 in
set_option maxHeartbeats 4000000 in
theorem stream_any (vk vn vb : Value) (k n b : List UInt8) (c : Nat) (C : Int) (hC : C = (c : Int)) (hc : c < 4294967296) (w : World) (hT : PlT w) (hk : Rd w vk k) (hn : Rd w vn n) (hb : Rd w vb b) (hk32 : k.length = 32) (hn12 : n.length = 12) (hbl : b.length ≤ 100000000) :
    Calls Tryd.prog 56 #[vk, .int .u32 C, vn, vb] w fun e w' => ∃ r, e = .returned r ∧ New 5 w r (smL k c n b) w' := by
  subst hC
  obtain ⟨ti, hti, hz0, hz1, hz2⟩ := info_parts info5
  have HD : Hid (decide (k.length = 32 ∧ n.length = 12) = true) := decide_eq_true ⟨hk32, hn12⟩
  have HK : Hid _ := hk
  have HN : Hid _ := hn
  have H1 : Hid _ := hk32
  have H2 : Hid _ := hn12
  have HT : Hid (PlT w) := hT
  have HC : Hid _ := hc
  obtain ⟨ab, cb, rfl, hcb, hmb, -, -⟩ := id hb
  obtain ⟨L, hL⟩ : ∃ L : Nat, L = b.length := ⟨_, rfl⟩
  rw [← hL] at hb hbl hcb ⊢
  have HB : Hid (Rd w (.slice ab L cb) b) := hb
  have HL : Hid _ := hL
  unfold maxLen at hmb
  clear hk hn hk32 hn12 hT hc hb hL
  go_enter Tryd.func56, Tryd.ntmps56
  go_wp2_with fail
  refine (fit_any _ _ k n _ HK.out HN.out).mono ?_
  rintro e w ⟨rfl, rfl⟩
  rw [HD.out]
  go_wp2_with fail
  refine (start_any _ _ k n c _ rfl HC.out _ HK.out HN.out H1.out H2.out).mono ?_
  rintro e w2 ⟨rfl, b2⟩
  have h0 : W16 (bkW k c n) := bkW_ok k c n
  obtain ⟨B0, hB0⟩ : ∃ l : List Nat, l = bkW k c n := ⟨_, rfl⟩
  rw [← hB0] at h0 ⊢
  have HB0 : Hid _ := hB0
  clear hB0
  go_wp2_with (first | refine wpList_alloc_row (k := .u32) rfl 112 rfl (nI z16) (alloc_wd _) z16_ok.ne (wdMax z16_ok) ?_)
  intro w3 r3 b3 s3
  rw [z16_ok.len] at r3
  have hbw := stepB b2 b3
  have n2 := b2.size
  have n3 : w2.heap.size < w3.heap.size := by have := s3.out; omega
  clear b2 b3 s3
  go_wp2_with (first | (at_make; fail) | refine wpList_store_row rfl 112 _ _ rfl (nI B0) rfl rfl r3 (by rw [z16_ok.len, h0.len]) (wdInfo z16_ok) ?_)
  intro w4 r4 hw4
  replace hbw := hw4.below _ _ (by omega) hbw
  have n4 : w2.heap.size < w4.heap.size := by have := hw4.size; omega
  clear r3 hw4
  go_wp2_with (at_make; go_must (refine wpList_make_own _ rfl _ _ 40 rfl w4.heap.size 5 ti _ 1 Tryd.underlying40 hti hz0 hz1 _ _ _ L rfl rfl rfl (by rw [hz2]; omega) (by unfold maxLen; omega) (Nat.le_refl _) ?_))
  intro w5 hown hgr
  have hO5 : w5.ownsRow w4.heap.size 5 1 (.slice (some ⟨w4.heap.size, 0, none⟩) 0 L) (smP k c n b 0).length ((smP k c n b 0).map bv) := hown
  have b5 : Below w4.heap.size w4 w5 := (Below.refl _ _).grown hgr (Nat.le_refl _) (by simp)
  have r5 := r4.kept b5
  rw [HB0.out] at r5
  have n5 := b5.size
  have hbw5 := stepB hbw b5
  clear hown hgr r4 hbw b5
  have HZ : Hid (64 * 0 = min (64 * 0) L) := by show _ = _; omega
  go_wp2
  go_loopw [10] (fun v wx => ∃ j : Nat, wx.ownsRow w4.heap.size 5 1 v (smP k c n b (min (64 * j) L)).length ((smP k c n b (min (64 * j) L)).map bv) ∧ RowAt .u32 112 w2.heap.size 16 (nI (bkW k (c + j) n)) wx ∧ Below w.heap.size w wx ∧ w4.heap.size ≤ wx.heap.size) (fun v _ => L - rowLen v)
  case atStart => exact ⟨0, by rw [← HZ.out]; exact hO5, r5, hbw5, n5⟩
  case round =>
    obtain ⟨j, hO, rs, hbx, nx⟩ := hrel
    clear hO5 r5 hbw5 n5 HZ h0
    have hRo := Rd.of_row hO
    obtain ⟨ao, co, rfl, -, hmo, -, -⟩ := id hRo
    unfold maxLen at hmo
    obtain ⟨i, hi⟩ : ∃ i : Nat, i = min (64 * j) L := ⟨_, rfl⟩
    rw [← hi, smP_length] at hO ⊢
    have hO1 : wr.ownsRow w4.heap.size 5 1 (.slice ao i co) (smP k c n b i).length ((smP k c n b i).map bv) := by
      rw [smP_length]
      exact hO
    clear hO hRo
    by_cases hlt : i < L
    · have hd : decide ((i : Int) < (L : Int)) = true := decide_eq_true (by omega)
      have hiI : (i : Int) < (L : Int) := by omega
      have hij : i = 64 * j := by omega
      obtain ⟨gb, ob, c', ev, -, -, -⟩ := HB.out.cellAt (i := 0) (by have := HL.out; omega)
      simp only [Value.slice.injEq] at ev
      obtain ⟨rfl, -, rfl⟩ := ev
      have hsub := (Rd.kept HB.out hbx).sub i L (by omega) (Nat.le_refl _)
      rw [List.take_of_length_le (by rw [List.length_drop, ← HL.out]; omega)] at hsub
      have hSW : W16 (bkW k (c + j) n) := bkW_ok k (c + j) n
      have HNx : Hid (smP k c n b i ++ xorL (b.drop i) (bkS (bkW k (c + j) n)) = smP k c n b (min (64 * (j + 1)) L)) := by
        show _ = _
        rw [bkS_bkL, hij, smP_block _ _ _ _ _ (by rw [← HL.out]; omega), HL.out]
      obtain ⟨x, hx⟩ : ∃ x : Nat, x = (bkW k (c + j) n).getD 12 0 := ⟨_, rfl⟩
      obtain ⟨y, hy⟩ : ∃ y : Nat, y = (c + (j + 1)) % 4294967296 := ⟨_, rfl⟩
      have hxy : ((x : Int) + 1) % 4294967296 = (y : Int) := by
        rw [bkW_count] at hx
        omega
      have hxw : IntKind.u32.wrap ((x : Int) + 1) = (y : Int) := by rw [IntKind.wrap_u32']; exact hxy
      have HSt : Hid (nI ((bkW k (c + j) n).set 12 y) = nI (bkW k (c + (j + 1)) n)) := by
        show _ = _
        rw [hy]
        rfl
      have hlS : (nI (bkW k (c + j) n)).length = 16 := hSW.len
      have HlS : Hid _ := hlS
      have HX : Hid _ := hx
      have HI : Hid _ := hi
      have HIJ : Hid _ := hij
      have HLb : Hid ((b.drop i).length ≤ 100000000) := by
        show _ ≤ _
        rw [List.length_drop, ← HL.out]
        omega
      have HLp : Hid ((smP k c n b i).length + (xorL (b.drop i) (bkS (bkW k (c + j) n))).length ≤ 200000000) := by
        show _ ≤ _
        rw [smP_length, xorL_length, List.length_drop, ← HL.out]
        omega
      generalize bkW k (c + j) n = S at rs hSW HNx HSt HlS HX HLp
      have ym1 : ¬ cb = i := by omega
      have ym2 : i ≤ L := by omega
      have ym3 : (i : Int) ≤ (L : Int) := by omega
      have ym4 : (L : Int) ≤ (cb : Int) := by omega
      clear hlS hx hy hi hij
      go_wp2_with fail
      have hB : Below wr.heap.size wr wr.drew := (Below.refl _ _).drew
      have hS : RowAt .u32 112 w2.heap.size 16 (nI S) wr.drew := rs.drew
      refine wpS_begin (fun W => RowAt .u32 112 w2.heap.size 16 (nI S) W) (by kernel_rfl) ?_
      refine sU_ hS 0 rfl ⟨_, by intro W hW; go_simp <;> with_reducible rfl, ?_⟩
      try simp only [Act.put, pA_, pB_, pC_]
      refine sU_ hS 1 rfl ⟨_, by intro W hW; go_simp <;> with_reducible rfl, ?_⟩
      try simp only [Act.put, pA_, pB_, pC_]
      refine sU_ hS 2 rfl ⟨_, by intro W hW; go_simp <;> with_reducible rfl, ?_⟩
      try simp only [Act.put, pA_, pB_, pC_]
      refine sU_ hS 3 rfl ⟨_, by intro W hW; go_simp <;> with_reducible rfl, ?_⟩
      try simp only [Act.put, pA_, pB_, pC_]
      refine sU_ hS 4 rfl ⟨_, by intro W hW; go_simp <;> with_reducible rfl, ?_⟩
      try simp only [Act.put, pA_, pB_, pC_]
      refine sU_ hS 5 rfl ⟨_, by intro W hW; refine Eq.trans (exec_load_row' 112 _ (by rfl) (by rfl) hW (Below.refl _ _) _ Tryd.underlying112 rfl (wdInfo hSW)) ?_; with_reducible rfl, ?_⟩
      try simp only [Act.put, pA_, pB_, pC_]
      refine sD_ 6 fun K hK => ?_
      go_simp
      refine (sblock_any _ S hSW rfl _ (PlT.kept HT.out (stepB hbx (Below.refl _ _).drew))).mono ?_
      rintro e w6 ⟨vB, rfl, hN6⟩
      replace hB := stepB hB hN6.2
      replace hS := hS.kept hN6.2
      refine hK.out _ _ hS ?_
      clear hK K
      try simp only [Act.put, pA_, pB_, pC_]
      refine sD_ 7 fun K hK => ?_
      go_simp
      refine (xor_any _ _ _ _ _ (hsub.kept hB) hN6.rd (by have := HLb.out; omega)).mono ?_
      rintro e w7 ⟨vX, rfl, hN7⟩
      replace hB := stepB hB hN7.2
      replace hS := hS.kept hN7.2
      have hO7 := ownsRow_below hO1 hB
      have hn7 := hB.size
      have hlow : ∀ g, some g = (Value.slice ao i co).ownBlock → w4.heap.size ≤ g := fun g e => (hO7.lt g e.symm).1
      refine hK.out _ _ hS ?_
      clear hK K
      try simp only [Act.put, pA_, pB_, pC_]
      refine sD_ 8 fun K hK => ?_
      refine wp_append_base (base := w4.heap.size) _ _ 40 (by rfl) 5 Tryd.underlying40 info5 _ _ (by rfl) hO7 (by omega) _ _ (by rfl) hN7.rd (by have := HLp.out; omega) ?_
      intro v8 w8 hO8 hg8 _
      rw [HNx.out] at hO8
      replace hS := hS.chg (Chg.of_grown hg8) (fun e => by have := hlow _ e; omega)
      refine hK.out _ _ hS ?_
      clear hK K
      try simp only [Act.put, pA_, pB_, pC_]
      refine sU_ hS 9 rfl ⟨_, by intro W hW; go_simp <;> with_reducible rfl, ?_⟩
      try simp only [Act.put, pA_, pB_, pC_]
      refine wpS_done (by kernel_rfl) ?_
      have rs8 := hS
      have hb8 := Chg.below (stepB hbx hB) (Chg.of_grown hg8) (by omega) (fun g _ e => by have := hlow _ e; omega)
      have n8 : w4.heap.size ≤ w8.heap.size := by have := hg8.size; omega
      have hR8 := Rd.of_row hO8
      obtain ⟨a8, c8, rfl, -, -, -, -⟩ := id hR8
      rw [smP_length] at hO8 ⊢
      have hc12 := rs8.cell (j := 12) (by rw [HlS.out]; decide)
      rw [nI_get, ← HX.out] at hc12
      have hf12 := rs8.free 12
      have hw9 := Wrote.set w2.heap.size 12 w8 (.int .u32 (y : Int))
      have rs9 := rs8.set 12 (y : Int)
      rw [nI_set, HSt.out] at rs9
      have hO9 := own_chg hO8 (Chg.of_wrote hw9) (fun g e1 e2 => by have := (hO8.lt g e1).1; omega)
      have hb9 := hw9.below _ _ (by omega) hb8
      have n9 := hw9.size
      have R9 : Hid _ := rs9
      have O9 : Hid _ := hO9
      have B9 : Hid _ := hb9
      have N9 : Hid _ := n9
      clear hO1 rs hbx hsub hN6 hN7 hO7 hB hS hlow hg8 rs8 hb8 hR8 hO8 rs9 hO9 hb9 n9 hw9
      go_wp2
      go_roundw
      case rel => exact ⟨j + 1, by rw [smP_length]; exact O9.out, R9.out, B9.out, by have := N9.out; omega⟩
      case measure =>
        have h1 := HI.out
        have h2 := HIJ.out
        simp [rowLen]
        omega
    · have hd : decide ((i : Int) < (L : Int)) = false := decide_eq_false (by omega)
      have hiI : (L : Int) ≤ (i : Int) := by omega
      have hiL : i = L := by omega
      have hN : New 5 w (.slice ao i co) (smL k c n b) wr := by
        refine ⟨own_mono (base := w4.heap.size) ?_ (by omega), hbx⟩
        rw [← smP_all, ← HL.out, ← hiL]
        exact hO1
      clear hiL hO1 rs hbx hi
      go_wp2
      go_ret
      exact ⟨_, rfl, hN⟩
end Go.Proofs.YtliiofjcghdjoaaDoor

/- A variable of a function's own that a closure writes: a row of bytes that grows behind it; what the program's own filling up, lengths and joining answer: contracts of package aead, first part. -/
namespace Go.Proofs.YtliiofjcghdjoaaDoor
open Go.ChangeShapes Go.WideShapes Go.ChangeAt Go.RowKit
set_option linter.unusedSimpArgs false
set_option linter.unusedVariables false

/-- The variable in block g holds a slice of its own, made since w0, which reads as l. -/
structure Cap (ty e : TypeId) (w0 : World) (g : Nat) (v : Value) (l : List UInt8) (w : World) : Prop where
  var : BlkAt g ty [v] w
  row : w.ownsRow w0.heap.size e 1 v l.length (l.map bv)
  ge : w0.heap.size ≤ g
  below : Below w0.heap.size w0 w
theorem Cap.apart {ty e : TypeId} {g : Nat} {v u : Value} {l : List UInt8} {base : Nat} {w : World} (hv : BlkAt g ty [u] w) (hr : w.ownsRow base e 1 v l.length (l.map bv)) (hne : ty ≠ e) : v.ownBlock ≠ some g := by
  rcases hr.2 with ⟨rfl, h0⟩ | ⟨g', cap, cur, rfl, hb, hg, hn, hm, hs, ht⟩
  · simp [Value.ownBlock]
  · intro h
    have h1 : g' = g := by simpa [Value.ownBlock] using h
    subst h1
    unfold BlkAt at hv
    rw [hg] at hv
    simp at hv
    exact hne hv.2.symm
theorem Cap.rd {ty e : TypeId} {w0 w : World} {g : Nat} {v : Value} {l : List UInt8} (h : Cap ty e w0 g v l w) : Rd w v l := Rd.of_row h.row
theorem Cap.kept {ty e : TypeId} {w0 w w' : World} {g : Nat} {v : Value} {l : List UInt8} (h : Cap ty e w0 g v l w) (hb : Below w.heap.size w w') : Cap ty e w0 g v l w' :=
  ⟨h.var.kept hb, ownsRow_below h.row hb, h.ge, stepB h.below hb⟩
theorem Cap.cell {ty e : TypeId} {w0 w : World} {g : Nat} {v : Value} {l : List UInt8} (h : Cap ty e w0 g v l w) : w.cell? ⟨g, 0, none⟩ = some v := by rw [h.var.cell]; rfl
theorem Cap.free {ty e : TypeId} {w0 w : World} {g : Nat} {v : Value} {l : List UInt8} (h : Cap ty e w0 g v l w) : w.frozen? ⟨g, 0, none⟩ = false := h.var.free 0
theorem Cap.grow {ty e : TypeId} {w0 w w1 : World} {g : Nat} {v v' : Value} {l l' : List UInt8} (h : Cap ty e w0 g v l w) (hne : ty ≠ e) (h1 : w1.ownsRow w0.heap.size e 1 v' l'.length (l'.map bv)) (hg : w.grownBy w1 v.ownBlock) :
    w1.cell? ⟨g, 0, none⟩ = some v ∧ w1.frozen? ⟨g, 0, none⟩ = false ∧ Cap ty e w0 g v' l' (w1.setCell ⟨g, 0, none⟩ v') := by
  have hb1 : BlkAt g ty [v] w1 := h.var.chg (Chg.of_grown hg) fun e => Cap.apart h.var h.row hne e.symm
  refine ⟨by rw [hb1.cell]; rfl, hb1.free 0, hb1.set 0 v', own_chg h1 (Chg.of_wrote (Wrote.set g 0 w1 v')) fun g' hg' e => ?_, h.ge, ?_⟩
  · subst e
    exact Cap.apart hb1 h1 hne hg'
  · have hb2 : Below w0.heap.size w0 w1 := h.below.grown hg h.below.size fun k hk => (h.row.lt k hk).1
    exact (Wrote.set g 0 w1 v').below _ _ h.ge hb2
/-- How long the variable's slice is. -/
def lenC (w : World) (g : Nat) : Nat := match w.cell? ⟨g, 0, none⟩ with
  | some v => lenOf v
  | none => 0
theorem Cap.len {ty e : TypeId} {w0 w : World} {g : Nat} {v : Value} {l : List UInt8} (h : Cap ty e w0 g v l w) : lenC w g = l.length := by
  unfold lenC
  rw [h.cell]
  obtain ⟨a, c, rfl, -⟩ := h.rd
  rfl

set_option maxRecDepth 100000 in
set_option maxHeartbeats 1000000 in
theorem cfill_any (vb v : Value) (b l : List UInt8) (g : Nat) (w0 w : World) (hl : l.length + b.length ≤ 100000000000) (hC : Cap 40 5 w0 g v l w) (hb : Rd w vb b) :
    Calls Tryd.prog 84 #[vb, .pointer (some ⟨g, 0, none⟩)] w fun e w' => e = .returned (.tuple #[]) ∧ ∃ v', Cap 40 5 w0 g v' (flL (l ++ b)) w' := by
  have HL : Hid (l.length + b.length ≤ 100000000000) := hl
  have hc0 := hC.cell
  clear hl
  go_enter Tryd.func84, Tryd.ntmps84
  go_wp2_with (at_builtin; go_must (refine wpList_append_base rfl _ _ 40 rfl 5 Tryd.underlying40 infoU8 _ _ rfl hC.row hC.below.size _ _ rfl hb (by have := HL.out; omega) ?_))
  intro v1 w1 h1 hg1 _
  obtain ⟨c1, f1, hC1⟩ := hC.grow (l' := l ++ b) (by decide) (by simpa using h1) hg1
  have HT : Hid ((l ++ b).length ≤ 100000000000) := by show _ ≤ _; rw [List.length_append]; exact HL.out
  obtain ⟨t, ht⟩ : ∃ t : List UInt8, t = l ++ b := ⟨_, rfl⟩
  rw [← ht] at hC1 HT
  have HE : Hid (t = l ++ b) := ht
  clear ht
  clear h1 hg1 hC hc0 hb HL
  obtain ⟨a1, k1, rfl, -⟩ := id hC1.rd
  go_wp2
  go_loopw [] (fun wx => ∃ (j : Nat) (v : Value), j ≤ pd16 t.length ∧ Cap 40 5 w0 g v (flJ t j) wx) (fun wx => pd16 t.length + t.length - lenC wx g)
  case atStart => exact ⟨0, _, Nat.zero_le _, by simpa [flJ] using hC1⟩
  case round =>
    obtain ⟨j, v2, hj, hC2⟩ := hrel
    clear hC1 c1 f1
    have c2 := hC2.cell
    obtain ⟨a, c, rfl, hc, hm, -, -⟩ := id hC2.rd
    unfold maxLen at hm
    have hlen : (flJ t j).length = t.length + j := flJ_length t j
    have HS : Hid (t.length + j + 1 ≤ 140737488355328) := by show _ ≤ _; have := HT.out; have := pd16_lt t.length; omega
    have HLC : Hid (lenC wr g = t.length + j) := by show _ = _; rw [hC2.len, hlen]
    obtain ⟨m, hm2⟩ : ∃ m : Nat, m = t.length + j := ⟨_, rfl⟩
    by_cases hlt : j < pd16 t.length
    · have hd := pd16_on t.length j hlt
      rw [← hm2] at hd
      rw [hlen, ← hm2] at hC2 c2
      have HN : Hid (Cap 40 5 w0 g (.slice a m c) (flJ t j) wr) := hC2
      have HM : Hid _ := hm2
      clear hC2 hm hlen hm2 hc
      have hCx : ∀ o : Obj, Cap 40 5 w0 g (.slice a m c) (flJ t j) (wr.alloc o) := fun o => HN.out.kept (growB o)
      have hcx : ∀ o : Obj, (wr.alloc o).cell? ⟨g, 0, none⟩ = some (.slice a m c) := fun o => (hCx o).cell
      go_wp2_with (at_builtin; go_must (refine wpList_append_base rfl _ _ 40 rfl 5 Tryd.underlying40 infoU8 _ _ rfl (hCx _).row (hCx _).below.size _ _ rfl (Rd.lit1 (0 : UInt8) rfl) (by rw [flJ_length]; exact HS.out) ?_))
      intro v3 w3 h3 hg3 _
      obtain ⟨c3, f3, hC3⟩ := (hCx _).grow (l' := flJ t j ++ [(0 : UInt8)]) (by decide) (by simpa using h3) hg3
      rw [flJ_next] at hC3
      clear h3 hg3 hcx hCx c2
      obtain ⟨a3, k3, rfl, -⟩ := id hC3.rd
      go_wp2
      go_roundw
      case rel => exact ⟨j + 1, _, by omega, hC3⟩
      case measure => have := HM.out; have := HLC.out; rw [hC3.len, flJ_length]; omega
    · have hje : j = pd16 t.length := by omega
      have hd := pd16_off t.length
      rw [← hje, ← hm2] at hd
      rw [hlen, ← hm2] at hC2 c2
      have HN : Hid (Cap 40 5 w0 g (.slice a m c) (flJ t j) wr) := hC2
      have HF : Hid (flL t = flJ t j) := by show _ = _; rw [hje]; rfl
      clear hC2 hm hlen
      go_wp2
      go_end0
      exact ⟨rfl, _, by rw [← HE.out, HF.out]; exact HN.out⟩

set_option maxHeartbeats 1000000 in
theorem alength_any (vb : Value) (b : List UInt8) (w : World) (hl : b.length ≤ 100000000000) (hb : Rd w vb b) :
    Calls Tryd.prog 85 #[vb] w fun e w' => ∃ r, e = .returned r ∧ New 5 w r (st8 b.length) w' := by
  obtain ⟨ab, cb, rfl, hcb, hmb, -, -⟩ := id hb
  have e1 : IntKind.u64.wrap (b.length : Int) = (b.length : Int) := by rw [IntKind.wrap_u64]; omega
  go_enter Tryd.func85, Tryd.ntmps85
  go_wp2_with fail
  refine (store_k b.length 8 8 (by decide) (by omega) _).mono ?_
  rintro e w1 ⟨v1, rfl, hN1⟩
  go_wp2
  go_ret
  exact ⟨_, rfl, hN1⟩
theorem afit_any (vk vn : Value) (k n : List UInt8) (w : World) (hk : Rd w vk k) (hn : Rd w vn n) :
    Calls Tryd.prog 61 #[vk, vn] w fun e w' => e = .returned (.bool (decide (k.length = 32 ∧ n.length = 12))) ∧ w' = w := by
  obtain ⟨ak, ck, rfl, hck, -, -⟩ := hk
  obtain ⟨an, cn, rfl, hcn, -, -⟩ := hn
  by_cases h : k.length = 32
  · have HE : Hid (((n.length : Int) == 12) = decide (k.length = 32 ∧ n.length = 12)) := by
      show _ = _
      by_cases h2 : n.length = 12 <;> simp [h, h2] <;> omega
    have hd : ((k.length : Int) == 32) = true := by simp [h]
    go_enter Tryd.func61, Tryd.ntmps61
    go_wp2
    go_ret
    exact ⟨congrArg (fun b => Ending.returned (.bool b)) HE.out, rfl⟩
  · have hd : ((k.length : Int) == 32) = false := by simp; omega
    have HE : Hid (false = decide (k.length = 32 ∧ n.length = 12)) := by
      show _ = _
      simp [h]
    go_enter Tryd.func61, Tryd.ntmps61
    go_wp2
    go_ret
    exact ⟨congrArg (fun b => Ending.returned (.bool b)) HE.out, rfl⟩
end Go.Proofs.YtliiofjcghdjoaaDoor

/- What the program's own tag is of, tags, sealing and opening: contracts of package aead, second part. -/
namespace Go.Proofs.YtliiofjcghdjoaaDoor
open Go.ChangeShapes Go.WideShapes Go.ChangeAt Go.RowKit
set_option linter.unusedSimpArgs false
set_option linter.unusedVariables false

theorem pd16_mul (n m : Nat) (h : n % 16 = 0) : pd16 (n + m) = pd16 m := by unfold pd16; omega
theorem flL_mod (a : List UInt8) : (flL a).length % 16 = 0 := by rw [flL_length]; unfold pd16; omega
theorem flL_on (a b : List UInt8) (h : a.length % 16 = 0) : flL (a ++ b) = a ++ flL b := by
  unfold flL
  rw [List.length_append, pd16_mul _ _ h, List.append_assoc]
theorem flL_two (a b : List UInt8) : flL (flL a ++ b) = flL a ++ flL b := flL_on _ _ (flL_mod a)
theorem flL_tgI (a b : List UInt8) : flL (flL a ++ flL b ++ (st8 a.length ++ st8 b.length)) = tgI a b := by
  rw [flL_on _ _ (by rw [List.length_append]; have := flL_mod a; have := flL_mod b; omega)]
  have h : flL (st8 a.length ++ st8 b.length) = st8 a.length ++ st8 b.length := by
    unfold flL
    rw [List.length_append, st8_length, st8_length, show pd16 (8 + 8) = 0 from rfl, List.replicate_zero, List.append_nil]
  rw [h]
  unfold tgI
  simp only [List.append_assoc]

set_option maxRecDepth 100000 in
set_option maxHeartbeats 1000000 in
theorem covered_any (va vb : Value) (a b : List UInt8) (hla : a.length ≤ 3000000) (hlb : b.length ≤ 3000000) (w : World) (ha : Rd w va a) (hb : Rd w vb b) :
    Calls Tryd.prog 70 #[va, vb] w fun e w' => ∃ r, e = .returned r ∧ New 5 w r (tgI a b) w' := by
  obtain ⟨ti, hti, hz0, hz1, hz2⟩ := info_parts info5
  obtain ⟨aa, ca, rfl, hca, hma, -, -⟩ := id ha
  obtain ⟨ab, cb, rfl, hcb, hmb, -, -⟩ := id hb
  have HA : Hid (Rd w (.slice aa a.length ca) a) := ha
  have HB : Hid (Rd w (.slice ab b.length cb) b) := hb
  have hmf : ∀ (fn : Fn) (first cap : Array Value) (w : World), (Instr.makeFunc fn first cap).run Tryd.prog w = .ok (.func fn first cap) w := fun _ _ _ _ => rfl
  unfold maxLen at hma hmb
  clear ha hb
  go_enter Tryd.func70, Tryd.ntmps70
  go_wp2_with (at_make; go_must (refine wpList_make_own _ rfl _ _ 40 rfl w.heap.size 5 ti _ 1 Tryd.underlying40 hti hz0 hz1 _ _ _ (a.length + b.length + 48) rfl rfl (by omega) (by rw [hz2]; omega) (by unfold maxLen; omega) (Nat.le_refl _) ?_))
  intro w1 hown hgr
  have hR : w1.ownsRow w.heap.size 5 1 (.slice (some ⟨w.heap.size, 0, none⟩) 0 (a.length + b.length + 48)) ([] : List UInt8).length (([] : List UInt8).map bv) := hown
  have hb1 : Below w.heap.size w w1 := (Below.refl _ _).grown hgr (Nat.le_refl _) (by simp)
  have hC0 : Cap 40 5 w w1.heap.size (.slice (some ⟨w.heap.size, 0, none⟩) 0 (a.length + b.length + 48)) [] (w1.alloc (.cells #[.slice (some ⟨w.heap.size, 0, none⟩) 0 (a.length + b.length + 48)] 40)) :=
    ⟨BlkAt.fresh rfl rfl, ownsRow_below hR (growB _), hb1.size, stepB hb1 (growB _)⟩
  have HLA : Hid (a.length ≤ 3000000) := hla
  have HLB : Hid (b.length ≤ 3000000) := hlb
  have HP : Hid (pd16 a.length < 16 ∧ pd16 b.length < 16) := ⟨pd16_lt _, pd16_lt _⟩
  clear hown hgr hR hb1 hla hlb
  go_wp2_with fail
  refine (cfill_any _ _ a [] _ w _ (by have := HLA.out; simp; omega) hC0 (HA.out.kept hC0.below)).mono ?_
  rintro e w2 ⟨rfl, v2, hC2⟩
  rw [List.nil_append] at hC2
  clear hC0
  go_wp2_with fail
  refine (cfill_any _ _ b (flL a) _ w _ (by have := HLA.out; have := HLB.out; have := HP.out; rw [flL_length]; omega) hC2 (HB.out.kept hC2.below)).mono ?_
  rintro e w3 ⟨rfl, v3, hC3⟩
  rw [flL_two] at hC3
  clear hC2
  go_wp2_with fail
  refine (alength_any _ a _ (by have := HLA.out; omega) (HA.out.kept hC3.below)).mono ?_
  rintro e w4 ⟨v4, rfl, hN4⟩
  have hC4 := hC3.kept hN4.2
  have h4 := hN4.rd
  clear hC3 hN4
  go_wp2_with fail
  refine (alength_any _ b _ (by have := HLB.out; omega) (HB.out.kept hC4.below)).mono ?_
  rintro e w5 ⟨v5, rfl, hN5⟩
  have hC5 := hC4.kept hN5.2
  replace h4 := h4.kept hN5.2
  have h5 := hN5.rd
  clear hC4 hN5
  obtain ⟨a4, k4, rfl, -⟩ := id h4
  obtain ⟨a5, k5, rfl, -⟩ := id h5
  go_wp2_with fail
  refine (join_any _ _ _ _ (RdL.pair8 (e := 40) rfl h4 h5) (by simp [totL, st8_length])).mono ?_
  rintro e w6 ⟨v6, rfl, hN6⟩
  replace hN6 := hN6.pair8
  have hC6 := (hC5.kept (growB _)).kept hN6.2
  have h6 := hN6.rd
  clear hC5 hN6 h4 h5
  go_wp2_with fail
  refine (cfill_any _ _ _ (flL a ++ flL b) _ w _ (by have := HLA.out; have := HLB.out; have := HP.out; rw [List.length_append, List.length_append, flL_length, flL_length, st8_length, st8_length]; omega) hC6 h6).mono ?_
  rintro e w7 ⟨rfl, v7, hC7⟩
  rw [flL_tgI] at hC7
  have c7 := hC7.cell
  obtain ⟨a7, k7, rfl, -⟩ := id hC7.rd
  go_wp2
  go_ret
  exact ⟨_, rfl, hC7.row, hC7.below⟩
end Go.Proofs.YtliiofjcghdjoaaDoor

/- What the program's own tags, sealing and opening answer: contracts of package aead, third part. -/
namespace Go.Proofs.YtliiofjcghdjoaaDoor
open Go.ChangeShapes Go.WideShapes Go.ChangeAt Go.RowKit
set_option linter.unusedSimpArgs false
set_option linter.unusedVariables false

set_option maxHeartbeats 1000000 in
theorem atag_arg (vk vn va vb : Value) (k n : List UInt8) (h : ¬ (k.length = 32 ∧ n.length = 12)) (w : World) (hk : Rd w vk k) (hn : Rd w vn n) :
    Calls Tryd.prog 57 #[vk, vn, va, vb] w fun e w' => e = .returned (.tuple #[.slice none 0 0, .int .i64 1]) ∧ w' = w := by
  have hd : decide (k.length = 32 ∧ n.length = 12) = false := decide_eq_false h
  have HD : Hid _ := hd
  have HK : Hid (Rd w vk k) := hk
  have HN : Hid (Rd w vn n) := hn
  clear hd h hk hn
  go_enter Tryd.func57, Tryd.ntmps57
  go_wp2_with fail
  refine (afit_any _ _ k n _ HK.out HN.out).mono ?_
  rintro e w2 ⟨rfl, rfl⟩
  rw [HD.out]
  go_wp2
  go_ret2
  exact ⟨rfl, rfl⟩

set_option maxRecDepth 100000 in
set_option maxHeartbeats 2000000 in
theorem atag_any (vk vn va vb : Value) (k n a b : List UInt8) (hk32 : k.length = 32) (hn12 : n.length = 12) (hla : a.length ≤ 3000000) (hlb : b.length ≤ 3000000) (w : World) (hP : PlT w) (hT : KpT w) (hk : Rd w vk k) (hn : Rd w vn n) (ha : Rd w va a) (hb : Rd w vb b) :
    Calls Tryd.prog 57 #[vk, vn, va, vb] w fun e w' => ∃ r, e = .returned (.tuple #[r, .int .i64 0]) ∧ New 5 w r (tgL k n a b) w' := by
  have HD : Hid (decide (k.length = 32 ∧ n.length = 12) = true) := decide_eq_true ⟨hk32, hn12⟩
  have HK : Hid (Rd w vk k) := hk
  have HN : Hid (Rd w vn n) := hn
  have HA : Hid (Rd w va a) := ha
  have HB : Hid (Rd w vb b) := hb
  have H1 : Hid (k.length = 32) := hk32
  have H2 : Hid (n.length = 12) := hn12
  have HLA : Hid (a.length ≤ 3000000) := hla
  have HLB : Hid (b.length ≤ 3000000) := hlb
  have HP : Hid (PlT w) := hP
  have HT : Hid (KpT w) := hT
  clear hk32 hn12 hla hlb hP hT hk hn ha hb
  go_enter Tryd.func57, Tryd.ntmps57
  go_wp2_with fail
  refine (afit_any _ _ k n _ HK.out HN.out).mono ?_
  rintro e w ⟨rfl, rfl⟩
  rw [HD.out]
  go_wp2_with fail
  refine (block_any _ _ k n 0 _ rfl (by decide) _ HP.out HK.out HN.out H1.out H2.out).mono ?_
  rintro e w1 ⟨v1, rfl, hN1⟩
  have h1 := hN1.rd
  have hbw := hN1.2
  obtain ⟨a1, c1, rfl, hc1, hm1, -, -⟩ := id h1
  rw [bkL_length] at h1 hc1 ⊢
  have ht := h1.take (n := 32) (by decide)
  have HTL : Hid (((bkL k 0 n).take 32).length = 32) := by show _ = _; rw [List.length_take, bkL_length]; rfl
  have HE : Hid (tgL k n a b = mcP ((bkL k 0 n).take 32) (tgI a b)) := rfl
  generalize (bkL k 0 n).take 32 = K at ht HTL HE
  have HTk : Hid (Rd w1 _ K) := ht
  unfold maxLen at hm1
  have ym1 : (32 : Int) ≤ (c1 : Int) := by omega
  clear h1 hN1 ht
  go_wp2_with fail
  refine (covered_any _ _ a b HLA.out HLB.out _ (HA.out.kept hbw) (HB.out.kept hbw)).mono ?_
  rintro e w2 ⟨v2, rfl, hN2⟩
  have h2 := hN2.rd
  have ht := HTk.out.kept hN2.2
  replace hbw := stepB hbw hN2.2
  clear hN2 HTk
  go_wp2_with fail
  refine (pmac_any _ _ K (tgI a b) _ (HT.out.kept hbw) ht h2 HTL.out).mono ?_
  rintro e w3 ⟨v3, rfl, hN3⟩
  rw [← HE.out] at hN3
  go_wp2
  go_ret2
  exact ⟨_, rfl, hN3.from hbw⟩

set_option maxHeartbeats 1000000 in
theorem aseal_arg (vk vn va vb : Value) (k n : List UInt8) (h : ¬ (k.length = 32 ∧ n.length = 12)) (w : World) (hk : Rd w vk k) (hn : Rd w vn n) :
    Calls Tryd.prog 49 #[vk, vn, va, vb] w fun e w' => e = .returned (.tuple #[.slice none 0 0, .int .i64 1]) ∧ w' = w := by
  have H : Hid (¬ (k.length = 32 ∧ n.length = 12)) := h
  have HK : Hid (Rd w vk k) := hk
  have HN : Hid (Rd w vn n) := hn
  clear h hk hn
  go_enter Tryd.func49, Tryd.ntmps49
  go_wp2_with fail
  refine (stream_arg _ _ _ k n _ _ HK.out HN.out H.out).mono ?_
  rintro e w ⟨rfl, rfl⟩
  go_wp2_with fail
  refine (atag_arg _ _ _ _ k n H.out _ HK.out HN.out).mono ?_
  rintro e w ⟨rfl, rfl⟩
  go_wp2
  go_ret2
  exact ⟨rfl, rfl⟩

set_option maxRecDepth 100000 in
set_option maxHeartbeats 2000000 in
theorem aseal_any (vk vn va vb : Value) (k n a b : List UInt8) (hk32 : k.length = 32) (hn12 : n.length = 12) (hla : a.length ≤ 3000000) (hlb : b.length ≤ 3000000) (w : World) (hP : PlT w) (hT : KpT w) (hk : Rd w vk k) (hn : Rd w vn n) (ha : Rd w va a) (hb : Rd w vb b) :
    Calls Tryd.prog 49 #[vk, vn, va, vb] w fun e w' => ∃ r, e = .returned (.tuple #[r, .int .i64 0]) ∧ New 5 w r (seL k n a b) w' := by
  have HK : Hid (k.length = 32) := hk32
  have HN : Hid (n.length = 12) := hn12
  have HA : Hid (a.length ≤ 3000000) := hla
  have HB : Hid (b.length ≤ 3000000) := hlb
  have HP : Hid (PlT w) := hP
  have HT : Hid (KpT w) := hT
  clear hk32 hn12 hla hlb hP hT
  go_enter Tryd.func49, Tryd.ntmps49
  go_wp2_with fail
  refine (stream_any _ _ _ k n b 1 _ rfl (by decide) _ HP.out hk hn hb HK.out HN.out (by have := HB.out; omega)).mono ?_
  rintro e w1 ⟨v1, rfl, hN1⟩
  replace hk := hk.kept hN1.2
  replace hn := hn.kept hN1.2
  replace ha := ha.kept hN1.2
  have h1 := hN1.rd
  have hbw := hN1.2
  have HL1 : Hid ((smL k 1 n b).length = b.length) := smL_length k 1 n b
  have HE : Hid (seL k n a b = smL k 1 n b ++ tgL k n a (smL k 1 n b)) := rfl
  generalize smL k 1 n b = s at h1 HL1 HE
  clear hN1 hb
  go_wp2_with fail
  refine (atag_any _ _ _ _ k n a s HK.out HN.out HA.out (by rw [HL1.out]; exact HB.out) _ (HP.out.kept hbw) (HT.out.kept hbw) hk hn ha h1).mono ?_
  rintro e w2 ⟨v2, rfl, hN2⟩
  replace h1 := h1.kept hN2.2
  have h2 := hN2.rd
  replace hbw := stepB hbw hN2.2
  have HL2 : Hid ((tgL k n a s).length = 16) := mcP_length _ _
  generalize tgL k n a s = t at h2 HL2 HE
  clear hN2 hk hn ha
  obtain ⟨a1, c1, rfl, -⟩ := id h1
  obtain ⟨a2, c2, rfl, -⟩ := id h2
  go_wp2_with fail
  refine (join_any _ _ _ _ (RdL.pair8 (e := 40) rfl h1 h2) (by have := HL1.out; have := HL2.out; have := HB.out; simp [totL]; omega)).mono ?_
  rintro e w3 ⟨v3, rfl, hN3⟩
  replace hN3 := hN3.pair8
  rw [← HE.out] at hN3
  go_wp2
  go_ret2
  exact ⟨_, rfl, hN3.from (stepB hbw (growB _))⟩

set_option maxHeartbeats 1000000 in
theorem aopen_arg (vk vn va vb : Value) (k n : List UInt8) (h : ¬ (k.length = 32 ∧ n.length = 12)) (w : World) (hk : Rd w vk k) (hn : Rd w vn n) :
    Calls Tryd.prog 54 #[vk, vn, va, vb] w fun e w' => e = .returned (.tuple #[.slice none 0 0, .int .i64 1]) ∧ w' = w := by
  have hd : decide (k.length = 32 ∧ n.length = 12) = false := decide_eq_false h
  have HD : Hid _ := hd
  have HK : Hid (Rd w vk k) := hk
  have HN : Hid (Rd w vn n) := hn
  clear hd h hk hn
  go_enter Tryd.func54, Tryd.ntmps54
  go_wp2_with fail
  refine (afit_any _ _ k n _ HK.out HN.out).mono ?_
  rintro e w2 ⟨rfl, rfl⟩
  rw [HD.out]
  go_wp2
  go_ret2
  exact ⟨rfl, rfl⟩

set_option maxHeartbeats 1000000 in
theorem aopen_short (vk vn va vb : Value) (k n b : List UInt8) (hk32 : k.length = 32) (hn12 : n.length = 12) (hlb : b.length < 16) (w : World) (hk : Rd w vk k) (hn : Rd w vn n) (hb : Rd w vb b) :
    Calls Tryd.prog 54 #[vk, vn, va, vb] w fun e w' => e = .returned (.tuple #[.slice none 0 0, .int .i64 13]) ∧ w' = w := by
  have HD : Hid (decide (k.length = 32 ∧ n.length = 12) = true) := decide_eq_true ⟨hk32, hn12⟩
  have HK : Hid (Rd w vk k) := hk
  have HN : Hid (Rd w vn n) := hn
  obtain ⟨ab, cb, rfl, -, hmb, -, -⟩ := id hb
  have d5 : decide ((b.length : Int) < 16) = true := decide_eq_true (by omega)
  clear hk32 hn12 hk hn
  go_enter Tryd.func54, Tryd.ntmps54
  go_wp2_with fail
  refine (afit_any _ _ k n _ HK.out HN.out).mono ?_
  rintro e w2 ⟨rfl, rfl⟩
  rw [HD.out]
  go_wp2
  go_ret2
  exact ⟨rfl, rfl⟩

set_option maxRecDepth 100000 in
set_option maxHeartbeats 2000000 in
theorem aopen_any (vk vn va vb : Value) (k n a c t : List UInt8) (hk32 : k.length = 32) (hn12 : n.length = 12) (hla : a.length ≤ 3000000) (hlc : c.length ≤ 3000000) (ht : t.length = 16) (w : World) (hP : PlT w) (hT : KpT w) (hk : Rd w vk k) (hn : Rd w vn n) (ha : Rd w va a) (hb : Rd w vb (c ++ t)) :
    Calls Tryd.prog 54 #[vk, vn, va, vb] w fun e w' => (tgL k n a c = t → ∃ r, e = .returned (.tuple #[r, .int .i64 0]) ∧ New 5 w r (smL k 1 n c) w') ∧ (tgL k n a c ≠ t → e = .returned (.tuple #[.slice none 0 0, .int .i64 10]) ∧ Below w.heap.size w w') := by
  have HD : Hid (decide (k.length = 32 ∧ n.length = 12) = true) := decide_eq_true ⟨hk32, hn12⟩
  obtain ⟨bb, ob, cb, rfl, hcb, -, -⟩ := hb.cellAt (i := 0) (by rw [List.length_append]; omega)
  have hlen : (c ++ t).length = c.length + 16 := by rw [List.length_append, ht]
  obtain ⟨m, hm⟩ : ∃ m : Nat, m = c.length := ⟨_, rfl⟩
  rw [hlen, ← hm] at hb hcb ⊢
  have hC := hb.take (n := m) (by omega)
  have hS := hb.sub m (m + 16) (by omega) (Nat.le_refl _)
  rw [show (c ++ t).take m = c by rw [hm, List.take_left]] at hC
  rw [show m + 16 - m = 16 by omega, show ((c ++ t).drop m).take 16 = t by rw [hm, List.drop_left, ← ht, List.take_length]] at hS
  have HK : Hid (Rd w vk k) := hk
  have HN : Hid (Rd w vn n) := hn
  have HA : Hid (Rd w va a) := ha
  have HC : Hid (Rd w (.slice (some ⟨bb, ob, none⟩) m cb) c) := hC
  have HS : Hid (Rd w (.slice (some ⟨bb, ob + m, none⟩) 16 (cb - m)) t) := hS
  have H1 : Hid (k.length = 32) := hk32
  have H2 : Hid (n.length = 12) := hn12
  have HLA : Hid (a.length ≤ 3000000) := hla
  have HLC : Hid (c.length ≤ 3000000) := hlc
  have HP : Hid (PlT w) := hP
  have HT : Hid (KpT w) := hT
  have hmm : m ≤ 3000000 := by omega
  have hcm : ¬ cb = m := by omega
  have hcm2 : m ≤ cb := by omega
  have hcm3 : m ≤ m + 16 := by omega
  have hcm4 : m + 16 ≤ cb := hcb
  have hcm5 : m + 16 - m = 16 := by omega
  have hcm6 : (m : Int) ≤ (m : Int) + 16 := by omega
  have d3 : decide (((m + 16 : Nat) : Int) < 16) = false := decide_eq_false (by omega)
  have e16 : ((m + 16 : Nat) : Int) - 16 = (m : Int) := by omega
  clear hk32 hn12 hla hlc hlen hm hP hT hk hn ha hC hS hb ht
  go_enter Tryd.func54, Tryd.ntmps54
  go_wp2_with fail
  refine (afit_any _ _ k n _ HK.out HN.out).mono ?_
  rintro e w ⟨rfl, rfl⟩
  rw [HD.out]
  go_wp2_with fail
  refine (atag_any _ _ _ _ k n a c H1.out H2.out HLA.out HLC.out _ HP.out HT.out HK.out HN.out HA.out HC.out).mono ?_
  rintro e w1 ⟨v1, rfl, hN1⟩
  have h1 := hN1.rd
  have hbw := hN1.2
  obtain ⟨X, hX⟩ : ∃ X : List UInt8, X = tgL k n a c := ⟨_, rfl⟩
  rw [← hX] at h1
  have HX : Hid (X = tgL k n a c) := hX
  clear hN1 hX
  go_wp2_with fail
  refine (equal_any _ _ X t _ h1 (HS.out.kept hbw)).mono ?_
  rintro e w2 ⟨rfl, hb2⟩
  replace hbw := stepB hbw hb2
  obtain ⟨q, hq⟩ : ∃ q : Bool, decide (X = t) = q := ⟨_, rfl⟩
  rw [hq]
  clear h1 hb2
  cases q
  · have HQ : Hid (tgL k n a c ≠ t) := by show _ ≠ _; rw [← HX.out]; exact of_decide_eq_false hq
    clear hq
    go_wp2
    go_ret2
    exact ⟨fun h => absurd h HQ.out, fun _ => ⟨rfl, hbw⟩⟩
  · have HQ : Hid (tgL k n a c = t) := by show _ = _; rw [← HX.out]; exact of_decide_eq_true hq
    clear hq
    go_wp2_with fail
    refine (stream_any _ _ _ k n c 1 _ rfl (by decide) _ (HP.out.kept hbw) (HK.out.kept hbw) (HN.out.kept hbw) (HC.out.kept hbw) H1.out H2.out (by have := HLC.out; omega)).mono ?_
    rintro e w3 ⟨v3, rfl, hN3⟩
    go_wp2
    go_ret2
    exact ⟨fun _ => ⟨_, rfl, hN3.from hbw⟩, fun h => absurd HQ.out h⟩
end Go.Proofs.YtliiofjcghdjoaaDoor

/- What the document's own sealing and opening answer: contracts of the reference of layer 9, second part. -/
namespace Go.Proofs.YtliiofjcghdjoaaDoor
open Go.ChangeShapes Go.WideShapes Go.ChangeAt Go.RowKit
set_option linter.unusedSimpArgs false
set_option linter.unusedVariables false

theorem conv9 {w : World} {v : Value} {l : List UInt8} (h : Rd w v l) : (convert 40 9 v).run Tryd.prog w = .ok (.string ⟨l.toArray⟩) w :=
  h.conv Tryd.underlying40 Tryd.underlying5 Tryd.underlying9

set_option maxHeartbeats 1000000 in
theorem sealR_arg (vk vn va vb : Value) (k n : List UInt8) (h : ¬ (k.length = 32 ∧ n.length = 12)) (w : World) (hk : Rd w vk k) (hn : Rd w vn n) :
    Calls Tryd.prog 40 #[vk, vn, va, vb] w fun e w' => e = .returned (.tuple #[.slice none 0 0, .int .i64 1]) ∧ w' = w := by
  obtain ⟨ak, ck, rfl, -, hmk, -, -⟩ := id hk
  obtain ⟨an, cn, rfl, -, hmn, -, -⟩ := id hn
  by_cases h1 : k.length = 32
  · have d1 : ((k.length : Int) != 32) = false := by simp; omega
    have d2 : ((n.length : Int) != 12) = true := by simp; omega
    clear h h1
    go_enter Tryd.func40, Tryd.ntmps40
    go_wp2
    go_ret2
    exact ⟨rfl, rfl⟩
  · have d1 : ((k.length : Int) != 32) = true := by simp; omega
    clear h h1
    go_enter Tryd.func40, Tryd.ntmps40
    go_wp2
    go_ret2
    exact ⟨rfl, rfl⟩

set_option maxRecDepth 100000 in
set_option maxHeartbeats 2000000 in
theorem sealR_any (vk vn va vb : Value) (k n a b : List UInt8) (hk32 : k.length = 32) (hn12 : n.length = 12) (hla : a.length ≤ 3000000) (hlb : b.length ≤ 3000000) (w : World) (hk : Rd w vk k) (hn : Rd w vn n) (ha : Rd w va a) (hb : Rd w vb b) :
    Calls Tryd.prog 40 #[vk, vn, va, vb] w fun e w' => ∃ r, e = .returned (.tuple #[r, .int .i64 0]) ∧ New 5 w r (seL k n a b) w' := by
  obtain ⟨ak, ck, rfl, -, hmk, -, -⟩ := id hk
  obtain ⟨an, cn, rfl, -, hmn, -, -⟩ := id hn
  have d1 : ((k.length : Int) != 32) = false := by simp; omega
  have d2 : ((n.length : Int) != 12) = false := by simp; omega
  have HK : Hid (k.length = 32) := hk32
  have HN : Hid (n.length = 12) := hn12
  have HA : Hid (a.length ≤ 3000000) := hla
  have HB : Hid (b.length ≤ 3000000) := hlb
  clear hk32 hn12 hla hlb hmk hmn
  go_enter Tryd.func40, Tryd.ntmps40
  go_wp2_with fail
  refine (streamR_any _ _ _ k n b 1 _ rfl (by decide) _ hk hn hb HK.out HN.out (by have := HB.out; omega)).mono ?_
  rintro e w1 ⟨v1, rfl, hN1⟩
  replace hk := hk.kept hN1.2
  replace hn := hn.kept hN1.2
  replace ha := ha.kept hN1.2
  have h1 := hN1.rd
  have hbw := hN1.2
  have HL1 : Hid ((smL k 1 n b).length = b.length) := smL_length k 1 n b
  have HE : Hid (seL k n a b = smL k 1 n b ++ tgL k n a (smL k 1 n b)) := rfl
  generalize smL k 1 n b = s at h1 HL1 HE
  clear hN1 hb
  go_wp2_with fail
  refine (tagR_any _ _ _ _ k n a s HK.out HN.out HA.out (by rw [HL1.out]; exact HB.out) _ hk hn ha h1).mono ?_
  rintro e w2 ⟨v2, rfl, hN2⟩
  replace h1 := h1.kept hN2.2
  have h2 := hN2.rd
  replace hbw := stepB hbw hN2.2
  have HL2 : Hid ((tgL k n a s).length = 16) := mcP_length _ _
  generalize tgL k n a s = t at h2 HL2 HE
  clear hN2 hk hn ha
  go_wp2_with fail
  refine (joinR_any _ _ s t (by rw [HL1.out, HL2.out]; have := HB.out; omega) _ h1 h2).mono ?_
  rintro e w3 ⟨v3, rfl, hN3⟩
  rw [← HE.out] at hN3
  go_wp2
  go_ret2
  exact ⟨_, rfl, hN3.from hbw⟩

/-! ### Opening -/
set_option maxHeartbeats 1000000 in
theorem openR_arg (vk vn va vb : Value) (k n : List UInt8) (h : ¬ (k.length = 32 ∧ n.length = 12)) (w : World) (hk : Rd w vk k) (hn : Rd w vn n) :
    Calls Tryd.prog 46 #[vk, vn, va, vb] w fun e w' => e = .returned (.tuple #[.slice none 0 0, .int .i64 1]) ∧ w' = w := by
  obtain ⟨ak, ck, rfl, -, hmk, -, -⟩ := id hk
  obtain ⟨an, cn, rfl, -, hmn, -, -⟩ := id hn
  by_cases h1 : k.length = 32
  · have d1 : ((k.length : Int) != 32) = false := by simp; omega
    have d2 : ((n.length : Int) != 12) = true := by simp; omega
    clear h h1
    go_enter Tryd.func46, Tryd.ntmps46
    go_wp2
    go_ret2
    exact ⟨rfl, rfl⟩
  · have d1 : ((k.length : Int) != 32) = true := by simp; omega
    clear h h1
    go_enter Tryd.func46, Tryd.ntmps46
    go_wp2
    go_ret2
    exact ⟨rfl, rfl⟩
set_option maxHeartbeats 1000000 in
theorem openR_short (vk vn va vb : Value) (k n b : List UInt8) (hk32 : k.length = 32) (hn12 : n.length = 12) (hlb : b.length < 16) (w : World) (hk : Rd w vk k) (hn : Rd w vn n) (hb : Rd w vb b) :
    Calls Tryd.prog 46 #[vk, vn, va, vb] w fun e w' => e = .returned (.tuple #[.slice none 0 0, .int .i64 13]) ∧ w' = w := by
  obtain ⟨ak, ck, rfl, -, hmk, -, -⟩ := id hk
  obtain ⟨an, cn, rfl, -, hmn, -, -⟩ := id hn
  obtain ⟨ab, cb, rfl, -, hmb, -, -⟩ := id hb
  have d1 : ((k.length : Int) != 32) = false := by simp; omega
  have d2 : ((n.length : Int) != 12) = false := by simp; omega
  have d3 : (b.length : Int) - 16 < 0 := by omega
  have d4 : decide ((b.length : Int) - 16 < 0) = true := decide_eq_true d3
  have d5 : decide ((b.length : Int) < 16) = true := decide_eq_true (by omega)
  go_enter Tryd.func46, Tryd.ntmps46
  go_wp2
  go_ret2
  exact ⟨rfl, rfl⟩
set_option maxRecDepth 100000 in
set_option maxHeartbeats 2000000 in
theorem openR_any (vk vn va vb : Value) (k n a c t : List UInt8) (hk32 : k.length = 32) (hn12 : n.length = 12) (hla : a.length ≤ 3000000) (hlc : c.length ≤ 3000000) (ht : t.length = 16) (w : World) (hk : Rd w vk k) (hn : Rd w vn n) (ha : Rd w va a) (hb : Rd w vb (c ++ t)) :
    Calls Tryd.prog 46 #[vk, vn, va, vb] w fun e w' => (tgL k n a c = t → ∃ r, e = .returned (.tuple #[r, .int .i64 0]) ∧ New 5 w r (smL k 1 n c) w') ∧ (tgL k n a c ≠ t → e = .returned (.tuple #[.slice none 0 0, .int .i64 10]) ∧ Below w.heap.size w w') := by
  obtain ⟨ak, ck, rfl, -, hmk, -, -⟩ := id hk
  obtain ⟨an, cn, rfl, -, hmn, -, -⟩ := id hn
  obtain ⟨bb, ob, cb, rfl, hcb, -, -⟩ := hb.cellAt (i := 0) (by rw [List.length_append]; omega)
  have d1 : ((k.length : Int) != 32) = false := by simp; omega
  have d2 : ((n.length : Int) != 12) = false := by simp; omega
  have hlen : (c ++ t).length = c.length + 16 := by rw [List.length_append, ht]
  obtain ⟨m, hm⟩ : ∃ m : Nat, m = c.length := ⟨_, rfl⟩
  rw [hlen, ← hm] at hb hcb ⊢
  have hC := hb.take (n := m) (by omega)
  have hT := hb.sub m (m + 16) (by omega) (Nat.le_refl _)
  rw [show (c ++ t).take m = c by rw [hm, List.take_left]] at hC
  rw [show m + 16 - m = 16 by omega, show ((c ++ t).drop m).take 16 = t by rw [hm, List.drop_left, ← ht, List.take_length]] at hT
  have HK : Hid (k.length = 32) := hk32
  have HN : Hid (n.length = 12) := hn12
  have HA : Hid (a.length ≤ 3000000) := hla
  have HC : Hid (c.length ≤ 3000000) := hlc
  have hmm : m ≤ 3000000 := by omega
  have hcm : ¬ cb = m := by omega
  have hcm2 : m ≤ cb := by omega
  have hcm3 : m ≤ m + 16 := by omega
  have hcm4 : m + 16 ≤ cb := hcb
  have hcm5 : m + 16 - m = 16 := by omega
  have hcm6 : (m : Int) ≤ (m : Int) + 16 := by omega
  have d3 : decide ((m : Int) < 0) = false := decide_eq_false (by omega)
  have e16 : ((m + 16 : Nat) : Int) - 16 = (m : Int) := by omega
  replace hk := hk.drew
  replace hn := hn.drew
  clear hk32 hn12 hla hlc hmk hmn hlen hm
  have hs0 : ∀ a : List UInt8, (⟨a.toArray⟩ : ByteArray).toList = a := str_toList
  obtain ⟨X, hX⟩ : ∃ X : List UInt8, X = tgL k n a c := ⟨_, rfl⟩
  rw [← hX]
  have HX : Hid (X = tgL k n a c) := hX
  obtain ⟨q, hq⟩ : ∃ q : Bool, (X == t) = q := ⟨_, rfl⟩
  have HKD : Hid (Rd _ _ _) := hk
  have HND : Hid (Rd _ _ _) := hn
  have HAD : Hid (Rd _ _ _) := ha.drew
  have HCD : Hid (Rd _ _ _) := hC.drew
  have HTD : Hid (Rd _ _ _) := hT.drew
  clear hX hk hn ha hC hT hb ht
  go_enter Tryd.func46, Tryd.ntmps46
  go_wp2_with fail
  refine wpG_begin (by kernel_rfl) ?_
  refine gU_ 0 rfl ⟨_, by intro W hW; go_simp <;> with_reducible rfl, ?_⟩
  try simp only [Act.put, pA_, pB_, pC_]
  refine gU_ 1 rfl ⟨_, by intro W hW; go_simp <;> with_reducible rfl, ?_⟩
  try simp only [Act.put, pA_, pB_, pC_]
  refine gU_ 2 rfl ⟨_, by intro W hW; go_simp <;> with_reducible rfl, ?_⟩
  try simp only [Act.put, pA_, pB_, pC_]
  refine gU_ 3 rfl ⟨_, by intro W hW; go_simp <;> with_reducible rfl, ?_⟩
  try simp only [Act.put, pA_, pB_, pC_]
  refine gU_ 4 rfl ⟨_, by intro W hW; go_simp <;> with_reducible rfl, ?_⟩
  try simp only [Act.put, pA_, pB_, pC_]
  refine gU_ 5 rfl ⟨_, by intro W hW; go_simp <;> with_reducible rfl, ?_⟩
  try simp only [Act.put, pA_, pB_, pC_]
  refine gU_ 8 rfl ⟨_, by intro W hW; go_simp <;> with_reducible rfl, ?_⟩
  try simp only [Act.put, pA_, pB_, pC_]
  refine gU_ 9 rfl ⟨_, by intro W hW; go_simp <;> with_reducible rfl, ?_⟩
  try simp only [Act.put, pA_, pB_, pC_]
  refine gU_ 10 rfl ⟨_, by intro W hW; go_simp <;> with_reducible rfl, ?_⟩
  try simp only [Act.put, pA_, pB_, pC_]
  refine gU_ 11 rfl ⟨_, by intro W hW; have hcv := conv9 (HTD.out.kept hW); go_simp <;> with_reducible rfl, ?_⟩
  try simp only [Act.put, pA_, pB_, pC_]
  refine gD_ 6 fun K hK => ?_
  go_simp
  refine (tagR_any _ _ _ _ k n a c HK.out HN.out HA.out HC.out _ HKD.out HND.out HAD.out HCD.out).mono ?_
  rintro e w1 ⟨v1, rfl, hN1⟩
  refine hK.out _ _ hN1.2 ?_
  clear hK K
  have h1 := hN1.rd
  rw [← HX.out] at h1
  try simp only [Act.put, pA_, pB_, pC_]
  refine gU_ 7 rfl ⟨_, by intro W hW; have hcv := conv9 (h1.kept hW); go_simp <;> with_reducible rfl, ?_⟩
  try simp only [Act.put, pA_, pB_, pC_]
  refine gU_ 12 rfl ⟨_, by intro W hW; go_simp <;> with_reducible rfl, ?_⟩
  try simp only [Act.put, pA_, pB_, pC_]
  refine wpG_done (by kernel_rfl) ?_
  have hk := HKD.out.kept hN1.2
  have hn := HND.out.kept hN1.2
  have hC := HCD.out.kept hN1.2
  have hbw := hN1.2
  clear HKD HND HAD HCD HTD hN1 h1
  cases q
  · have hne : X ≠ t := fun h => by rw [h] at hq; simp at hq
    go_wp2
    go_ret2
    exact ⟨fun h => absurd h hne, fun _ => ⟨rfl, (Below.refl _ _).drew.trans (hbw.mono (Nat.le_refl _))⟩⟩
  · have heq : X = t := by simpa using hq
    have HQ : Hid _ := heq
    clear heq
    go_wp2_with fail
    refine (streamR_any _ _ _ k n c 1 _ rfl (by decide) _ hk hn hC HK.out HN.out (by have := HC.out; omega)).mono ?_
    rintro e w2 ⟨v2, rfl, hN2⟩
    go_wp2
    go_ret2
    exact ⟨fun _ => ⟨_, rfl, hN2.from ((Below.refl _ _).drew.trans (hbw.mono (Nat.le_refl _)))⟩, fun h => absurd HQ.out h⟩
end Go.Proofs.YtliiofjcghdjoaaDoor

/- What sealing, opening and tags answer at every input, whole: of the program and of the document's own. -/
namespace Go.Proofs.YtliiofjcghdjoaaDoor
open Go.ChangeShapes Go.WideShapes Go.ChangeAt Go.RowKit
set_option linter.unusedSimpArgs false
set_option linter.unusedVariables false

/-- A key and a nonce have their sizes. -/
abbrev fitN (k n : List UInt8) : Prop := k.length = 32 ∧ n.length = 12
/-- What sealing answers, and its error. -/
def seA (k n a t : List UInt8) : List UInt8 × Int := if fitN k n then (seL k n a t, 0) else ([], 1)
def tgA (k n a b : List UInt8) : List UInt8 × Int := if fitN k n then (tgL k n a b, 0) else ([], 1)
def opA (k n a s : List UInt8) : List UInt8 × Int :=
  if fitN k n then
    if s.length < 16 then ([], 13) else if tgL k n a (s.take (s.length - 16)) = s.drop (s.length - 16) then (smL k 1 n (s.take (s.length - 16)), 0) else ([], 10)
  else ([], 1)
theorem seA_fit {k n : List UInt8} (h : fitN k n) (a t : List UInt8) : seA k n a t = (seL k n a t, 0) := if_pos h
theorem seA_no {k n : List UInt8} (h : ¬ fitN k n) (a t : List UInt8) : seA k n a t = ([], 1) := if_neg h
theorem tgA_fit {k n : List UInt8} (h : fitN k n) (a t : List UInt8) : tgA k n a t = (tgL k n a t, 0) := if_pos h
theorem tgA_no {k n : List UInt8} (h : ¬ fitN k n) (a t : List UInt8) : tgA k n a t = ([], 1) := if_neg h
theorem opA_no {k n : List UInt8} (h : ¬ fitN k n) (a s : List UInt8) : opA k n a s = ([], 1) := if_neg h
theorem opA_short {k n : List UInt8} (h : fitN k n) (a s : List UInt8) (hs : s.length < 16) : opA k n a s = ([], 13) := by
  unfold opA
  rw [if_pos h, if_pos hs]
theorem opA_ok {k n : List UInt8} (h : fitN k n) (a c t : List UInt8) (ht : t.length = 16) (he : tgL k n a c = t) : opA k n a (c ++ t) = (smL k 1 n c, 0) := by
  have e : (c ++ t).length - 16 = c.length := by rw [List.length_append]; omega
  unfold opA
  rw [if_pos h, if_neg (by rw [List.length_append]; omega), e, List.take_left, List.drop_left, if_pos he]
theorem opA_bad {k n : List UInt8} (h : fitN k n) (a c t : List UInt8) (ht : t.length = 16) (he : tgL k n a c ≠ t) : opA k n a (c ++ t) = ([], 10) := by
  have e : (c ++ t).length - 16 = c.length := by rw [List.length_append]; omega
  unfold opA
  rw [if_pos h, if_neg (by rw [List.length_append]; omega), e, List.take_left, List.drop_left, if_neg he]
/-- What was sealed has these parts. -/
theorem seL_parts (k n a t : List UInt8) : ∃ c g, seL k n a t = c ++ g ∧ c.length = t.length ∧ g.length = 16 ∧ tgL k n a c = g ∧ smL k 1 n c = t :=
  ⟨smL k 1 n t, _, rfl, smL_length k 1 n t, mcP_length _ _, rfl, smL_twice k 1 n t⟩
theorem New.noneB {e : TypeId} {w w' : World} (h : Below w.heap.size w w') : New e w (.slice none 0 0) [] w' := ⟨World.ownsRow_nil _ _ _ _, h⟩
theorem parts16 (s : List UInt8) (h : ¬ s.length < 16) : ∃ c t, s = c ++ t ∧ t.length = 16 :=
  ⟨s.take (s.length - 16), s.drop (s.length - 16), (List.take_append_drop _ _).symm, by rw [List.length_drop]; omega⟩

theorem atag_all (vk vn va vb : Value) (k n a b : List UInt8) (hla : a.length ≤ 3000000) (hlb : b.length ≤ 3000000) (w : World) (hP : PlT w) (hT : KpT w) (hk : Rd w vk k) (hn : Rd w vn n) (ha : Rd w va a) (hb : Rd w vb b) :
    Calls Tryd.prog 57 #[vk, vn, va, vb] w fun e w' => ∃ r, e = .returned (.tuple #[r, .int .i64 (tgA k n a b).2]) ∧ New 5 w r (tgA k n a b).1 w' := by
  by_cases h : fitN k n
  · rw [tgA_fit h]
    exact atag_any vk vn va vb k n a b h.1 h.2 hla hlb w hP hT hk hn ha hb
  · rw [tgA_no h]
    refine (atag_arg vk vn va vb k n h w hk hn).mono ?_
    rintro e w' ⟨rfl, rfl⟩
    exact ⟨_, rfl, New.start _⟩

theorem aseal_all (vk vn va vb : Value) (k n a b : List UInt8) (hla : a.length ≤ 3000000) (hlb : b.length ≤ 3000000) (w : World) (hP : PlT w) (hT : KpT w) (hk : Rd w vk k) (hn : Rd w vn n) (ha : Rd w va a) (hb : Rd w vb b) :
    Calls Tryd.prog 49 #[vk, vn, va, vb] w fun e w' => ∃ r, e = .returned (.tuple #[r, .int .i64 (seA k n a b).2]) ∧ New 5 w r (seA k n a b).1 w' := by
  by_cases h : fitN k n
  · rw [seA_fit h]
    exact aseal_any vk vn va vb k n a b h.1 h.2 hla hlb w hP hT hk hn ha hb
  · rw [seA_no h]
    refine (aseal_arg vk vn va vb k n h w hk hn).mono ?_
    rintro e w' ⟨rfl, rfl⟩
    exact ⟨_, rfl, New.start _⟩

theorem sealR_all (vk vn va vb : Value) (k n a b : List UInt8) (hla : a.length ≤ 3000000) (hlb : b.length ≤ 3000000) (w : World) (hk : Rd w vk k) (hn : Rd w vn n) (ha : Rd w va a) (hb : Rd w vb b) :
    Calls Tryd.prog 40 #[vk, vn, va, vb] w fun e w' => ∃ r, e = .returned (.tuple #[r, .int .i64 (seA k n a b).2]) ∧ New 5 w r (seA k n a b).1 w' := by
  by_cases h : fitN k n
  · rw [seA_fit h]
    exact sealR_any vk vn va vb k n a b h.1 h.2 hla hlb w hk hn ha hb
  · rw [seA_no h]
    refine (sealR_arg vk vn va vb k n h w hk hn).mono ?_
    rintro e w' ⟨rfl, rfl⟩
    exact ⟨_, rfl, New.start _⟩

theorem aopen_all (vk vn va vb : Value) (k n a s : List UInt8) (hla : a.length ≤ 3000000) (hlb : s.length ≤ 3000000) (w : World) (hP : PlT w) (hT : KpT w) (hk : Rd w vk k) (hn : Rd w vn n) (ha : Rd w va a) (hb : Rd w vb s) :
    Calls Tryd.prog 54 #[vk, vn, va, vb] w fun e w' => ∃ r, e = .returned (.tuple #[r, .int .i64 (opA k n a s).2]) ∧ New 5 w r (opA k n a s).1 w' := by
  by_cases h : fitN k n
  · by_cases h16 : s.length < 16
    · rw [opA_short h _ _ h16]
      refine (aopen_short vk vn va vb k n s h.1 h.2 h16 w hk hn hb).mono ?_
      rintro e w' ⟨rfl, rfl⟩
      exact ⟨_, rfl, New.start _⟩
    · obtain ⟨c, t, rfl, ht⟩ := parts16 s h16
      rw [List.length_append] at hlb
      refine (aopen_any vk vn va vb k n a c t h.1 h.2 hla (by omega) ht w hP hT hk hn ha hb).mono ?_
      rintro e w' ⟨h1, h2⟩
      by_cases he : tgL k n a c = t
      · rw [opA_ok h a c t ht he]
        exact h1 he
      · rw [opA_bad h a c t ht he]
        obtain ⟨rfl, hb⟩ := h2 he
        exact ⟨_, rfl, New.noneB hb⟩
  · rw [opA_no h]
    refine (aopen_arg vk vn va vb k n h w hk hn).mono ?_
    rintro e w' ⟨rfl, rfl⟩
    exact ⟨_, rfl, New.start _⟩

theorem openR_all (vk vn va vb : Value) (k n a s : List UInt8) (hla : a.length ≤ 3000000) (hlb : s.length ≤ 3000000) (w : World) (hk : Rd w vk k) (hn : Rd w vn n) (ha : Rd w va a) (hb : Rd w vb s) :
    Calls Tryd.prog 46 #[vk, vn, va, vb] w fun e w' => ∃ r, e = .returned (.tuple #[r, .int .i64 (opA k n a s).2]) ∧ New 5 w r (opA k n a s).1 w' := by
  by_cases h : fitN k n
  · by_cases h16 : s.length < 16
    · rw [opA_short h _ _ h16]
      refine (openR_short vk vn va vb k n s h.1 h.2 h16 w hk hn hb).mono ?_
      rintro e w' ⟨rfl, rfl⟩
      exact ⟨_, rfl, New.start _⟩
    · obtain ⟨c, t, rfl, ht⟩ := parts16 s h16
      rw [List.length_append] at hlb
      refine (openR_any vk vn va vb k n a c t h.1 h.2 hla (by omega) ht w hk hn ha hb).mono ?_
      rintro e w' ⟨h1, h2⟩
      by_cases he : tgL k n a c = t
      · rw [opA_ok h a c t ht he]
        exact h1 he
      · rw [opA_bad h a c t ht he]
        obtain ⟨rfl, hb⟩ := h2 he
        exact ⟨_, rfl, New.noneB hb⟩
  · rw [opA_no h]
    refine (openR_arg vk vn va vb k n h w hk hn).mono ?_
    rintro e w' ⟨rfl, rfl⟩
    exact ⟨_, rfl, New.start _⟩
end Go.Proofs.YtliiofjcghdjoaaDoor

/- Rows of two rows. No program's text is named. -/
namespace Go.Proofs.YtliiofjcghdjoaaDoor
open Go.ChangeShapes Go.WideShapes Go.ChangeAt Go.RowKit
set_option linter.unusedSimpArgs false
set_option linter.unusedVariables false

theorem RdL.lit2 {w : World} {e : TypeId} {v1 v2 : Value} {l1 l2 : List UInt8} (h1 : Rd w v1 l1) (h2 : Rd w v2 l2) : RdL (w.alloc (.cells #[v1, v2] e)) (.slice (some ⟨w.heap.size, 0, none⟩) 2 2) [v1, v2] [l1, l2] :=
  RdL.lit _ _ rfl rfl rfl (by simp [maxLen]) rfl (fun i hi => by
    match i with
    | 0 => exact h1
    | 1 => exact h2
    | i + 2 => exact absurd hi (by simp))
theorem New.two {e : TypeId} {w w' : World} {v : Value} {l1 l2 : List UInt8} (h : New e w v [l1, l2].flatten w') : New e w v (l1 ++ l2) w' := by
  simpa using h
end Go.Proofs.YtliiofjcghdjoaaDoor
