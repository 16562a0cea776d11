/- What the document's own rest by 2^130 - 5 is: a contract of the reference of layer 8. -/
import Derived.Test.YtliiofjcghdjoaaDoorRef08a
import Derived.Test.YtliiofjcghdjoaaDoorBase
namespace Go.Proofs.YtliiofjcghdjoaaDoor
open Go.ChangeShapes Go.WideShapes Go.ChangeAt Go.RowKit
set_option linter.unusedSimpArgs false
set_option linter.unusedVariables false

/-- The number whose digits a slice holds. -/
def vAt8 (w : World) (v : Value) : Nat :=
  match v with
  | .slice (some ad) n _ => dv ((List.range n).map fun i => match w.cell? ⟨ad.block, ad.off + i, none⟩ with
    | some (.int _ x) => x.toNat
    | _ => 0)
  | _ => 0
theorem vAt8_eq {w : World} {v : Value} {l : List Nat} (h : RdI .i64 w v (nI l)) : vAt8 w v = dv l := by
  obtain ⟨a, cap, rfl, h2, h3, h4, h5⟩ := h
  rw [nI_length] at h2 h5 ⊢
  rcases h5 with h5 | ⟨b, off, rfl, hc⟩
  · have hl : l = [] := by cases l with | nil => rfl | cons x l => simp [nI] at h5
    subst hl
    cases a <;> rfl
  · have e : ((List.range l.length).map fun i => match w.cell? ⟨b, off + i, none⟩ with
      | some (.int _ x) => x.toNat
      | _ => 0) = l := by
      refine List.ext_getElem (by simp) fun i h1 h2 => ?_
      simp only [List.getElem_map, List.getElem_range]
      rw [hc i h2, nI_get]
      simp [h2]
    show dv ((List.range l.length).map fun i => match w.cell? ⟨b, off + i, none⟩ with
      | some (.int _ x) => x.toNat
      | _ => 0) = dv l
    rw [e]
theorem NewI.from8 {k : IntKind} {e : TypeId} {w wr w2 : World} {v : Value} {l : List Int} (h : NewI k e wr v l w2) (hb : Below w.heap.size w wr) : NewI k e w v l w2 := ⟨own_mono h.1 hb.size, hb.trans (h.2.mono hb.size)⟩

set_option maxRecDepth 100000 in
set_option maxHeartbeats 4000000 in
theorem mod8_any (v : Value) (a : List Nat) (hB : ∀ x ∈ a, x ≤ 1099511627776) (hl : a.length ≤ 999999999000) (w : World) (hr : RdI .i64 w v (nI a)) :
    Calls Tryd.prog 75 #[v] w fun e w' => ∃ r L, e = .returned r ∧ 18 ≤ L ∧ L ≤ a.length + 18 ∧ NewI .i64 3 w r (nI (dgN (dv a % p8) L)) w' := by
  obtain ⟨ti, hti, hz0, hz1, hz2⟩ := info_parts infoI8
  have hx : dv a < 256 ^ (a.length + 18) := by
    have h1 := dv_le _ a hB
    have h2 : 0 < 256 ^ a.length := Nat.pow_pos (by decide)
    rw [Nat.pow_add]
    generalize 256 ^ a.length = q at h1 h2 ⊢
    omega
  obtain ⟨B, hBe⟩ : ∃ B, B = a.length + 18 := ⟨_, rfl⟩
  rw [← hBe] at hx ⊢
  have HX : Hid (dv a < 256 ^ B) := hx
  have hBb : B ≤ 999999999018 := by omega
  clear hx
  go_enter Tryd.func75, Tryd.ntmps75
  go_wp2_with fail
  refine (carry8_any _ a 18 18 rfl (by omega) hB (by omega) _ hr).mono ?_
  rintro e w1 ⟨v1, L1, rfl, hL1, h181, hx1, hmin, hN1⟩
  have hL1b := hmin B (by omega) (by omega) HX.out
  have HX1 : Hid (dv a < 256 ^ L1) := hx1
  clear hmin hx1 hL1 hB hl hr HX hBe
  go_wp2
  go_loopw [0] (fun v wr => ∃ x L : Nat, 18 ≤ L ∧ L ≤ B ∧ Hid (x < 256 ^ L) ∧ Hid (x % p8 = dv a % p8) ∧ NewI .i64 3 w v (nI (dgN x L)) wr) (fun v wr => vAt8 wr v)
  case atStart => exact ⟨dv a, L1, h181, hL1b, HX1, rfl, hN1⟩
  case round =>
    obtain ⟨x, L, h18, hL, Hx, Hm, hN⟩ := hrel
    rename World => WA
    clear hN1 HX1 hL1b h181
    have HLM : Hid ((nI (dgN x L)).length = L) := by show _ = _; rw [nI_length, dgN_length]
    obtain ⟨gb, gc, rfl, hgb, hglt, hcm, hcx, hcells, -, -⟩ := hN.all (by rw [← List.length_pos_iff, HLM.out]; omega)
    have HV : Hid (vAt8 WA (.slice (some ⟨gb, 0, none⟩) (nI (dgN x L)).length gc) = x) := by show _ = _; rw [vAt8_eq hN.rd, dv_dgN, Nat.mod_eq_of_lt Hx.out]
    have HC : Hid (∀ i, i < L → WA.cell? ⟨gb, i, none⟩ = some (.int .i64 ((dg x i : Nat) : Int))) := fun i hi => by rw [hcells i (by rw [HLM.out]; exact hi), nI_get, dgN_get _ _ _ hi]
    rw [HLM.out] at hN hcm HV ⊢
    unfold maxLen at hcx
    have HN0 : Hid _ := hN
    have HB2 : Hid _ := hN.2
    have hc16 := HC.out 16 (by omega)
    have hL17 : 17 < L := by omega
    have hL17I : (17 : Int) < (L : Int) := by omega
    have hL16I : (16 : Int) < (L : Int) := by omega
    have hL0I : (0 : Int) < (L : Int) := by omega
    have H0 : Hid (Value.bool (decide ((3 : Int) < ((dg x 16 : Nat) : Int))) = .bool (decide (t8 ≤ x % 256 ^ 17))) := by
      show _ = _
      refine congrArg Value.bool (decide_eq_decide.2 ?_)
      rw [← high8_start]
      omega
    clear hcells hN
    go_wp2
    go_loop [3, 4] (fun h iv => ∃ i : Nat, iv = .int .i64 (i : Int) ∧ 17 ≤ i ∧ i ≤ L ∧ h = .bool (decide (t8 ≤ x % 256 ^ i))) (fun _ iv => L - (intOf iv).toNat)
    case atStart => exact ⟨17, rfl, by omega, by omega, H0.out⟩
    case round =>
      obtain ⟨i, rfl, hi17, hiL, rfl⟩ := hrel
      by_cases hilt : i < L
      · have hdi : decide ((i : Int) < (L : Int)) = true := decide_eq_true (by omega)
        have hiI : (i : Int) < L := by omega
        have hci := HC.out i hilt
        have HS : Hid _ := high8_step x i hi17
        clear H0 hc16
        by_cases hh : t8 ≤ x % 256 ^ i
        · rw [decide_eq_true hh]
          have HE : Hid (decide (t8 ≤ x % 256 ^ (i + 1)) = true) := decide_eq_true (HS.out.2 (.inl hh))
          clear hh HS
          generalize dg x i = q at hci
          go_wp2
          go_round
          case rel => exact ⟨i + 1, by go_num, by omega, by omega, by rw [HE.out]⟩
          case measure => simp [intOf]; omega
        · rw [decide_eq_false hh]
          by_cases hq : 0 < dg x i
          · have HE : Hid (decide (t8 ≤ x % 256 ^ (i + 1)) = true) := decide_eq_true (HS.out.2 (.inr hq))
            have hdq : decide ((0 : Int) < ((dg x i : Nat) : Int)) = true := decide_eq_true (by omega)
            have hqI : (0 : Int) < ((dg x i : Nat) : Int) := by omega
            clear hh HS
            generalize dg x i = q at hci hq hdq hqI
            go_wp2
            go_round
            case rel => exact ⟨i + 1, by go_num, by omega, by omega, by rw [HE.out]⟩
            case measure => simp [intOf]; omega
          · have HE : Hid (decide (t8 ≤ x % 256 ^ (i + 1)) = false) := decide_eq_false fun h => (HS.out.1 h).elim hh hq
            have hq0 : dg x i = 0 := by omega
            rw [hq0] at hci
            clear hh HS hq hq0
            go_wp2
            go_round
            case rel => exact ⟨i + 1, by go_num, by omega, by omega, by rw [HE.out]⟩
            case measure => simp [intOf]; omega
      · have hie : i = L := by omega
        have hdi : decide ((i : Int) < (L : Int)) = false := decide_eq_false (by omega)
        have hiI : (L : Int) ≤ i := by omega
        have e1 : decide (t8 ≤ x % 256 ^ i) = decide (t8 ≤ x) := by
          rw [hie, Nat.mod_eq_of_lt Hx.out]
        rw [e1]
        clear e1 hie H0
        by_cases hsm : x < t8
        · have hno : ¬ t8 ≤ x := by omega
          rw [decide_eq_false hno]
          have HSM : Hid _ := hsm
          clear hno hsm
          have hc0 := HC.out 0 (by omega)
          by_cases h3 : dg x 16 = 3
          · rw [h3] at hc16
            by_cases h251 : 251 ≤ dg x 0
            · have hd0 : decide ((251 : Int) ≤ ((dg x 0 : Nat) : Int)) = true := decide_eq_true (by omega)
              have hd0I : (251 : Int) ≤ ((dg x 0 : Nat) : Int) := by omega
              have H3 : Hid _ := h3
              have H251 : Hid _ := h251
              obtain ⟨q0, hq0⟩ : ∃ q0, Hid (q0 = dg x 0) := ⟨_, rfl⟩
              rw [← hq0.out] at hc0 hd0 hd0I
              clear h3 h251
              go_wp2
              go_loop [9, 10] (fun al iv => ∃ (i : Nat) (b : Bool), iv = .int .i64 (i : Int) ∧ 1 ≤ i ∧ i ≤ 16 ∧ al = .bool b ∧ Hid (b = true ↔ ∀ j, j < i → 1 ≤ j → dg x j = 255)) (fun _ iv => 16 - (intOf iv).toNat)
              case atStart => exact ⟨1, true, rfl, by omega, by omega, rfl, ⟨fun _ j h1 h2 => by omega, fun _ => rfl⟩⟩
              case round =>
                obtain ⟨j, b, rfl, hj1, hj16, rfl, HB⟩ := hrel
                clear hdi hiI
                by_cases hl : j < 16
                · have hdi : decide ((j : Int) < 16) = true := decide_eq_true (by omega)
                  have hiI : (j : Int) < 16 := by omega
                  have hiL2 : (j : Int) < (L : Int) := by omega
                  have hcj := HC.out j (by omega)
                  cases b with
                  | false =>
                    have HE : Hid (false = true ↔ ∀ i, i < j + 1 → 1 ≤ i → dg x i = 255) := ⟨fun h => (by simp at h), fun h => HB.out.2 fun i h1 h2 => h i (by omega) h2⟩
                    clear HB hcj
                    go_wp2
                    go_round
                    case rel => exact ⟨j + 1, false, by go_num, by omega, by omega, rfl, HE⟩
                    case measure => simp [intOf]; omega
                  | true =>
                    by_cases hq : dg x j = 255
                    · rw [hq] at hcj
                      have HE : Hid (true = true ↔ ∀ i, i < j + 1 → 1 ≤ i → dg x i = 255) := ⟨fun _ i h1 h2 => by
                        by_cases h : i = j
                        · rw [h]; exact hq
                        · exact HB.out.1 rfl i (by omega) h2, fun _ => rfl⟩
                      clear HB hq
                      go_wp2
                      go_round
                      case rel => exact ⟨j + 1, true, by go_num, by omega, by omega, rfl, HE⟩
                      case measure => simp [intOf]; omega
                    · have HE : Hid (false = true ↔ ∀ i, i < j + 1 → 1 ≤ i → dg x i = 255) := ⟨fun h => (by simp at h), fun h => absurd (h j (by omega) hj1) hq⟩
                      have hne : (((dg x j : Nat) : Int) == 255) = false := by simp; omega
                      have hne2 : ¬ ((dg x j : Nat) : Int) = 255 := by omega
                      generalize dg x j = q at hcj hne hne2
                      clear HB hq
                      go_wp2
                      go_round
                      case rel => exact ⟨j + 1, false, by go_num, by omega, by omega, rfl, HE⟩
                      case measure => simp [intOf]; omega
                · have hj : j = 16 := by omega
                  subst hj
                  cases b with
                  | false =>
                    have HP : Hid (x < p8) := by
                      show _ < _
                      refine Nat.lt_of_not_le fun hp => ?_
                      have h : ∀ j, j < 16 → 1 ≤ j → dg x j = 255 := fun j h1 h2 => by
                        refine Decidable.byContradiction fun h3 => ?_
                        have := tail8_c x j HSM.out h2 h1 h3
                        omega
                      have := HB.out.2 h
                      simp at this
                    have HF : Hid (x = dv a % p8) := by show _ = _; rw [← Hm.out, Nat.mod_eq_of_lt HP.out]
                    go_wp2
                    go_ret
                    exact ⟨_, rfl, L, h18, hL, by rw [← HF.out]; exact HN0.out⟩
                  | true =>
                    have HP : Hid (p8 ≤ x) := tail8_d x HSM.out H3.out H251.out (HB.out.1 rfl)
                    obtain ⟨hs1, hs2⟩ := last8 x HP.out HSM.out
                    obtain ⟨d, hdd⟩ : ∃ d : Nat, d = x % p8 := ⟨_, rfl⟩
                    rw [← hdd] at hs1 hs2
                    have HF : Hid (d = dv a % p8) := by show _ = _; rw [← Hm.out, hdd]
                    have ed : IntKind.i64.wrap ((q0 : Int) - 251) = (d : Int) := by
                      have := hq0.out
                      rw [IntWalk.i64_in _ (by omega)]
                      omega
                    clear hs1 hdd
                    go_wp2_with (at_make; go_must (refine wpList_make_full _ rfl _ _ 68 rfl _ 3 ti _ 1 Tryd.underlying68 hti hz0 hz1 _ _ _ _ 18 rfl rfl rfl rfl (by rw [hz2]; omega) (by unfold maxLen; omega) (Nat.le_refl _) ?_))
                    intro w6 hown hgr
                    have hN6 := NewI.made hown hgr
                    obtain ⟨g6, c6, ev, -, -, h60, h61, h62⟩ := hN6.at (j := 0) (by simp)
                    simp only [Value.slice.injEq, Option.some.injEq, Addr.mk.injEq, and_true, true_and] at ev
                    obtain ⟨rfl, -, rfl⟩ := ev
                    have h63 := h62 (d : Int)
                    have hc06 : w6.cell? ⟨gb, 0, none⟩ = some (.int .i64 (q0 : Int)) := by
                      rw [hN6.2.cell (p := ⟨gb, 0, none⟩) hglt]
                      exact hc0
                    have e9 : (List.replicate 18 (0 : Int)).set 0 (d : Int) = nI (dgN d 18) := by
                      rw [← small8 d hs2, ← nI_set, nI_zeros]
                    rw [e9] at h63
                    have HR6 : Hid _ := h63.from8 HB2.out
                    clear hown hgr hN6 h62 h63 e9 hc0 hc16
                    go_wp2
                    go_ret
                    exact ⟨_, 18, rfl, by omega, by omega, by rw [← HF.out]; exact HR6.out⟩
            · have HP : Hid (x < p8) := tail8_b x HSM.out (by omega)
              have HF : Hid (x = dv a % p8) := by show _ = _; rw [← Hm.out, Nat.mod_eq_of_lt HP.out]
              have hd0 : decide ((251 : Int) ≤ ((dg x 0 : Nat) : Int)) = false := decide_eq_false (by omega)
              have hd0I : ((dg x 0 : Nat) : Int) < 251 := by omega
              generalize dg x 0 = q0 at hc0 hd0 hd0I
              clear h3 h251
              go_wp2
              go_ret
              exact ⟨_, rfl, L, h18, hL, by rw [← HF.out]; exact HN0.out⟩
          · have HP : Hid (x < p8) := tail8_a x HSM.out h3
            have HF : Hid (x = dv a % p8) := by show _ = _; rw [← Hm.out, Nat.mod_eq_of_lt HP.out]
            have hne : (((dg x 16 : Nat) : Int) == 3) = false := by simp; omega
            have hne2 : ¬ ((dg x 16 : Nat) : Int) = 3 := by omega
            generalize dg x 16 = q at hc16 hne hne2
            clear h3
            go_wp2
            go_ret
            exact ⟨_, rfl, L, h18, hL, by rw [← HF.out]; exact HN0.out⟩
        · have HGE : Hid (t8 ≤ x) := show _ ≤ _ by omega
          rw [decide_eq_true HGE.out]
          clear hsm
          go_wp2_with (at_make; go_must (refine wpList_make_full _ rfl _ _ 68 rfl _ 3 ti _ 1 Tryd.underlying68 hti hz0 hz1 _ _ _ _ 17 rfl rfl rfl rfl (by rw [hz2]; omega) (by unfold maxLen; omega) (Nat.le_refl _) ?_))
          intro w3 hown hgr
          have hN3 := NewI.made hown hgr
          clear hown hgr
          go_wp2
          go_loopw [6] (fun iv wx => ∃ i : Nat, i ≤ 17 ∧ iv = .int .i64 (i : Int) ∧ NewI .i64 3 WA (.slice (some ⟨WA.heap.size, 0, none⟩) 17 17) (nI (dgN x i ++ List.replicate (17 - i) 0)) wx) (fun iv _ => 17 - (intOf iv).toNat)
          case atStart => exact ⟨0, by omega, rfl, by simpa [dgN, nI] using hN3⟩
          case round =>
            obtain ⟨i, hi, rfl, hNC⟩ := hrel
            rename World => WC
            clear hN3 hdi hiI
            by_cases hl : i < 17
            · have hdi : decide ((i : Int) < 17) = true := decide_eq_true (by omega)
              have hiI : (i : Int) < 17 := by omega
              have hiM2 : (i : Int) < L := by omega
              have hci : WC.cell? ⟨gb, i, none⟩ = some (.int .i64 ((dg x i : Nat) : Int)) := by
                rw [hNC.2.cell (p := ⟨gb, i, none⟩) hglt]
                exact HC.out i (by omega)
              obtain ⟨g, c, ev, -, -, k1, k2, k3⟩ := hNC.at (j := i) (by rw [nI_length, lay8_length _ _ _ (by omega)]; omega)
              simp only [Value.slice.injEq, Option.some.injEq, Addr.mk.injEq, and_true, true_and] at ev
              obtain ⟨rfl, -, rfl⟩ := ev
              have k4 := k3 ((dg x i : Nat) : Int)
              rw [nI_set, lay8_next x 17 i (by omega)] at k4
              generalize (nI (dgN x i ++ List.replicate (17 - i) 0)).getD i 0 = z at k1
              have HK4 : Hid _ := k4
              clear hc16
              generalize dg x i = q at hci HK4
              clear hNC k3 k4
              go_wp2
              go_roundw
              case rel => exact ⟨i + 1, by omega, by go_num, HK4.out⟩
              case measure => simp [intOf]; omega
            · have hie : i = 17 := by omega
              subst hie
              have hc16C : WC.cell? ⟨gb, 16, none⟩ = some (.int .i64 ((dg x 16 : Nat) : Int)) := by
                rw [hNC.2.cell (p := ⟨gb, 16, none⟩) hglt]
                exact hc16
              obtain ⟨g, c, ev, -, -, k1, k2, k3⟩ := hNC.at (j := 16) (by rw [nI_length, lay8_length _ _ _ (by omega)]; omega)
              simp only [Value.slice.injEq, Option.some.injEq, Addr.mk.injEq, and_true, true_and] at ev
              obtain ⟨rfl, -, rfl⟩ := ev
              have k4 := k3 ((dg x 16 % 4 : Nat) : Int)
              rw [nI_set] at k4
              have HF0 : Hid (Fd8 x 0 ((dgN x 17 ++ List.replicate (17 - 17) 0).set 16 (dg x 16 % 4))) := by
                have := Fd8.start x
                rw [Nat.sub_self, List.replicate_zero, List.append_nil]
                exact this
              have HO0 : Hid (((dgN x 17 ++ List.replicate (17 - 17) 0).set 16 (dg x 16 % 4)).length ≤ L) := by show _ ≤ _; rw [List.length_set, lay8_length _ _ _ (by omega)]; omega
              generalize (dgN x 17 ++ List.replicate (17 - 17) 0).set 16 (dg x 16 % 4) = o at k4 HF0 HO0
              have em : ((dg x 16 : Nat) : Int).tmod 4 = ((dg x 16 % 4 : Nat) : Int) := by rw [Int.tmod_eq_emod_of_nonneg (by omega)]; omega
              have hq4 : dg x 16 % 4 < 4 := Nat.mod_lt _ (by decide)
              have HK4 : Hid _ := k4
              generalize (nI (dgN x 17 ++ List.replicate (17 - 17) 0)).getD 16 0 = z at k1
              generalize dg x 16 % 4 = q at em HK4 hq4
              clear hc16
              generalize dg x 16 = q0 at hc16C em
              clear hNC k3 k4 hl
              go_wp2
              go_loopw [5, 7] (fun ov iv wx => ∃ (m : Nat) (o : List Nat), iv = .int .i64 ((m + 16 : Nat) : Int) ∧ m + 16 ≤ L ∧ Hid (o.length ≤ L) ∧ Hid (Fd8 x m o) ∧ NewI .i64 3 WA ov (nI o) wx) (fun _ iv _ => L - (intOf iv).toNat)
              case atStart => exact ⟨0, o, rfl, by omega, HO0, HF0, HK4.out⟩
              case round =>
                obtain ⟨m, o1, rfl, hm, HO1, HF1, hN1⟩ := hrel
                rename World => WD
                clear HK4 HF0 HO0 k1 k2 hc16C em
                obtain ⟨i, hi⟩ : ∃ i : Nat, i = m + 16 := ⟨_, rfl⟩
                rw [← hi]
                have HI : Hid (i = m + 16) := hi
                by_cases hl : i < L
                · clear hi
                  have hdi : decide ((i : Int) < (L : Int)) = true := decide_eq_true (by omega)
                  have hiI : (i : Int) < L := by omega
                  go_wp2
                  go_loopw [5] (fun ov wx => ∃ o : List Nat, Hid (o.length ≤ L) ∧ Hid (Fd8 x m o) ∧ NewI .i64 3 WA ov (nI o) wx) (fun v _ => i - sLen v)
                  case atStart => exact ⟨o1, HO1, HF1, hN1⟩
                  case round =>
                    obtain ⟨o2, HO2, HF2, hN2⟩ := hrel
                    rename World => WE
                    clear hN1 HF1 HO1
                    have hlen2 := HO2.out
                    have hlen3 := HF2.out.len
                    obtain ⟨g2, c2, rfl, hg2, -, hc2a, hc2b, hcells2, hfree2, hset2⟩ := hN2.all (by rw [← List.length_pos_iff, nI_length]; omega)
                    unfold maxLen at hc2b
                    rw [nI_length] at hN2 hc2a hset2 ⊢
                    by_cases hsh : o2.length < i
                    · have hd2 : decide ((o2.length : Int) < (i : Int)) = true := decide_eq_true (by omega)
                      have hsI : (o2.length : Int) < (i : Int) := by omega
                      have hL1 : RdI .i64 (WE.alloc (.cells #[.int .i64 0] 3)) (.slice (some ⟨WE.heap.size, 0, none⟩) 1 1) [0] := lit1I8 _
                      have hsb : o2.length + 1 ≤ 999999999018 := by omega
                      clear hset2 hcells2 hfree2
                      go_wp2_with (at_builtin; go_must (refine wpList_append_newI (k := .i64) (w := WA) rfl _ _ 68 rfl 3 Tryd.underlying68 8 infoI8 _ _ rfl (hN2.alloc _) _ _ rfl hL1 (by rw [nI_length]; simp; omega) (by rw [nI_length]; simp; omega) ?_))
                      intro v' w5 hN5 _
                      have e5 : nI o2 ++ [0] = nI (o2 ++ [0]) := by
                        rw [← nI_append]
                        rfl
                      rw [e5] at hN5
                      obtain ⟨a5, c5, rfl, -, -, -, -⟩ := id hN5.rd
                      have HL5 : Hid ((nI (o2 ++ [0])).length = o2.length + 1) := by show _ = _; rw [nI_length]; simp
                      rw [HL5.out] at hN5 ⊢
                      clear e5 hL1 hN2
                      go_wp2
                      go_roundw
                      case rel => exact ⟨_, _, _, _, _, _, _, _, ⟨o2 ++ [0], (show _ ≤ _ by simp; omega), HF2.out.app, hN5⟩, rfl⟩
                      case measure => simp [sLen]; omega
                    · have hd2 : decide ((o2.length : Int) < (i : Int)) = false := decide_eq_false (by omega)
                      have hsI : (i : Int) ≤ (o2.length : Int) := by omega
                      have hi := HI.out
                      have hmo : m < o2.length := by omega
                      have hmI : (m : Int) < (o2.length : Int) := by omega
                      have w16 : IntKind.i64.wrap ((i : Int) - 16) = (m : Int) := by rw [IntWalk.i64_in _ (by omega)]; omega
                      have w17 : IntKind.i64.wrap ((i : Int) + 1) = (i : Int) + 1 := IntWalk.i64_in _ (by omega)
                      have hc1 : WE.cell? ⟨gb, i, none⟩ = some (.int .i64 ((dg x i : Nat) : Int)) := by
                        rw [hN2.2.cell (p := ⟨gb, i, none⟩) hglt]
                        exact HC.out i hl
                      have k1 := hcells2 m (by rw [nI_length]; exact hmo)
                      rw [nI_get] at k1
                      have k2 := hfree2 m
                      have hzb := HF2.out.rest m (Nat.le_refl _)
                      obtain ⟨n, hn⟩ : ∃ n : Nat, n = dg (x / t8) m := ⟨_, rfl⟩
                      have hn2 := hn.trans (high8' x m)
                      rw [← hi, show m + 17 = i + 1 by omega] at hn2
                      have hnb : n < 256 := by rw [hn]; exact dg_lt _ _
                      have k4 := hset2 m ((o2.getD m 0 + 5 * n : Nat) : Int)
                      rw [nI_set] at k4
                      have HFN : Hid _ := HF2.out.put hmo hn
                      have HON : Hid ((o2.set m (o2.getD m 0 + 5 * n)).length ≤ L) := by show _ ≤ _; rw [List.length_set]; exact hlen2
                      generalize o2.set m (o2.getD m 0 + 5 * n) = o3 at k4 HFN HON
                      have HK4 : Hid _ := k4
                      generalize o2.getD m 0 = z at k1 hzb HK4
                      have ew : IntKind.i64.wrap ((z : Int) + 5 * (n : Int)) = ((z + 5 * n : Nat) : Int) := by rw [IntWalk.i64_in _ (by omega)]; omega
                      have e5 : IntKind.i64.wrap (5 * (n : Int)) = 5 * (n : Int) := IntWalk.i64_in _ (by omega)
                      have hq1 := dg_lt x i
                      have hq2 := dg_lt x (i + 1)
                      obtain ⟨n1, hn1⟩ : ∃ n1 : Nat, n1 = dg x i / 4 := ⟨_, rfl⟩
                      have et1 : ((dg x i : Nat) : Int).tdiv 4 = (n1 : Int) := by rw [Int.tdiv_eq_ediv_of_nonneg (by omega)]; omega
                      have ewn1 : IntKind.i64.wrap (n1 : Int) = (n1 : Int) := IntWalk.i64_in _ (by omega)
                      generalize hol : o2.length = ol at hsI hmo hmI hd2 hlen2 hlen3 hc2a k4 HK4 hsh ⊢
                      by_cases hl2 : i + 1 < L
                      · have e32 : ((i : Int) + 1).toNat = i + 1 := by omega
                        have hl32 : decide ((i : Int) + 1 < (L : Int)) = true := decide_eq_true (by omega)
                        have hlJ : (i : Int) + 1 < (L : Int) := by omega
                        have hc2 : WE.cell? ⟨gb, i + 1, none⟩ = some (.int .i64 ((dg x (i + 1) : Nat) : Int)) := by
                          rw [hN2.2.cell (p := ⟨gb, i + 1, none⟩) hglt]
                          exact HC.out (i + 1) hl2
                        obtain ⟨n2, hn22⟩ : ∃ n2 : Nat, n2 = dg x (i + 1) % 4 := ⟨_, rfl⟩
                        have et2 : ((dg x (i + 1) : Nat) : Int).tmod 4 = (n2 : Int) := by rw [Int.tmod_eq_emod_of_nonneg (by omega)]; omega
                        have ewn2 : IntKind.i64.wrap (n2 : Int) = (n2 : Int) := IntWalk.i64_in _ (by omega)
                        have ew2 : IntKind.i64.wrap ((n2 : Int) * 64) = (n2 : Int) * 64 := IntWalk.i64_in _ (by omega)
                        have ew3 : IntKind.i64.wrap ((n1 : Int) + (n2 : Int) * 64) = (n : Int) := by rw [IntWalk.i64_in _ (by omega)]; omega
                        generalize dg x i = q1 at hc1 et1
                        generalize dg x (i + 1) = q2 at hc2 et2
                        clear hN2 hcells2 hfree2 hset2 k4 hn hn2 hn1 hn22 hq1 hq2 hol hi
                        go_wp2
                        go_roundw
                        case rel => exact ⟨m + 1, o3, by rw [HI.out]; go_num, by have := HI.out; omega, HON, HFN, HK4.out⟩
                        case measure => have := HI.out; simp [intOf]; omega
                      · have hl32 : decide ((i : Int) + 1 < (L : Int)) = false := decide_eq_false (by omega)
                        have hlJ : (L : Int) ≤ (i : Int) + 1 := by omega
                        have hz2' : dg x (i + 1) = 0 := by
                          unfold dg
                          rw [Nat.div_eq_of_lt (Nat.lt_of_lt_of_le Hx.out (Nat.pow_le_pow_right (by decide) (by omega)))]
                        have hnn : n1 = n := by rw [hn2, hz2', hn1]; simp
                        subst hnn
                        generalize dg x i = q1 at hc1 et1
                        clear hN2 hcells2 hfree2 hset2 k4 hn hn2 hn1 hq1 hq2 hol hi hz2'
                        go_wp2
                        go_roundw
                        case rel => exact ⟨m + 1, o3, by rw [HI.out]; go_num, by have := HI.out; omega, HON, HFN, HK4.out⟩
                        case measure => have := HI.out; simp [intOf]; omega
                · have hdi : decide ((i : Int) < (L : Int)) = false := decide_eq_false (by omega)
                  have hiI : (L : Int) ≤ (i : Int) := by omega
                  have hmL : m + 16 = L := by omega
                  have HF : Hid (dv o1 = fold8 x) := HF1.out.done (by rw [hmL]; exact Hx.out)
                  have HOB : Hid (∀ y ∈ o1, y ≤ 1099511627776) := fun y hy => by
                    have := HF1.out.all y hy
                    omega
                  have hRD := hN1.rd
                  have HBD : Hid _ := stepB HB2.out hN1.2
                  clear hN1 hmL hi
                  go_wp2_with fail
                  refine (carry8_any _ o1 18 18 rfl (by omega) HOB.out (by have := HO1.out; omega) _ hRD).mono ?_
                  rintro e w9 ⟨v9, L9, rfl, hL9, h189, hx9, hmin, hN9⟩
                  rw [HF.out] at hx9 hmin hN9
                  have hfl := fold8_lt' x HGE.out
                  have hL9b := hmin L HO1.out (by omega) (Nat.lt_trans hfl Hx.out)
                  have HX9 : Hid (fold8 x < 256 ^ L9) := hx9
                  have HN9 : Hid _ := hN9.from8 HBD.out
                  have HFL : Hid (fold8 x < x) := hfl
                  have hL9c : L9 ≤ B := by omega
                  have HVE : Hid (vAt8 w9 v9 = fold8 x) := by show _ = _; rw [vAt8_eq hN9.rd, dv_dgN, Nat.mod_eq_of_lt hx9]
                  clear hmin hx9 hN9 hfl hL9 hL9b hRD
                  go_wp2
                  go_roundw
                  case rel => exact ⟨fold8 x, L9, h189, hL9c, HX9, (fold8_mod x).trans Hm.out, HN9.out⟩
                  case measure =>
                    have h1 := HV.out
                    have h2 := HVE.out
                    have h3 := HFL.out
                    simp
                    omega
end Go.Proofs.YtliiofjcghdjoaaDoor
