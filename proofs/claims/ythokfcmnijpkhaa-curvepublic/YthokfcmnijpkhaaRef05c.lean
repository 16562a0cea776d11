/- What the document's own rest by 2^255 - 19 is: a contract of the reference of layer 5. -/
import Derived.Test.YthokfcmnijpkhaaRef05b
import Derived.Test.YthokfcmnijpkhaaMem
namespace Go.Proofs.Ythokfcmnijpkhaa
open Go.ChangeShapes Go.WideShapes Go.ChangeAt Go.RowKit
set_option linter.unusedSimpArgs false
set_option linter.unusedVariables false

/-- The number whose digits a slice holds. -/
def vAt (w : World) (v : Value) : Nat :=
  match v with
  | .slice (some ad) n _ => dv ((List.range n).map fun i => match w.cell? ⟨ad.block, ad.off + i, none⟩ with
    | some (.int _ x) => x.toNat
    | _ => 0)
  | _ => 0
theorem vAt_eq {w : World} {v : Value} {l : List Nat} (h : RdI .i64 w v (nI l)) : vAt w v = dv l := by
  obtain ⟨a, cap, rfl, h2, h3, h4, h5⟩ := h
  rw [nI_length] at h2 h5 ⊢
  rcases h5 with h5 | ⟨b, off, rfl, hc⟩
  · have hl : l = [] := by cases l with | nil => rfl | cons x l => simp [nI] at h5
    subst hl
    cases a <;> rfl
  · have e : ((List.range l.length).map fun i => match w.cell? ⟨b, off + i, none⟩ with
      | some (.int _ x) => x.toNat
      | _ => 0) = l := by
      refine List.ext_getElem (by simp) fun i h1 h2 => ?_
      simp only [List.getElem_map, List.getElem_range]
      rw [hc i h2, nI_get]
      simp [h2]
    show dv ((List.range l.length).map fun i => match w.cell? ⟨b, off + i, none⟩ with
      | some (.int _ x) => x.toNat
      | _ => 0) = dv l
    rw [e]
theorem NewI.from {k : IntKind} {e : TypeId} {w wr w2 : World} {v : Value} {l : List Int} (h : NewI k e wr v l w2) (hb : Below w.heap.size w wr) : NewI k e w v l w2 := ⟨own_mono h.1 hb.size, hb.trans (h.2.mono hb.size)⟩
theorem dgN_zero_next (x L : Nat) (h : x < 256 ^ L) : dgN x L ++ [0] = dgN x (L + 1) := by
  rw [← dgN_next]
  unfold dg
  rw [Nat.div_eq_of_lt h]
theorem dgN_take (x : Nat) {n m : Nat} (h : n ≤ m) : (dgN x m).take n = dgN x n := by
  unfold dgN
  rw [← List.map_take, List.take_range, Nat.min_eq_left h]
theorem last_small (x : Nat) (h1 : pN ≤ x) (h2 : x < 57896044618658097711785492504343953926634992332820282019728792003956564819968) : dg x 0 = 237 + x % pN ∧ x % pN < 19 := by
  have e : x % pN = x - pN := by
    rw [Nat.mod_eq_sub_mod h1, Nat.mod_eq_of_lt (by rw [pN_val] at *; omega)]
  rw [e]
  unfold dg
  rw [Nat.pow_zero, Nat.div_one]
  rw [pN_val] at *
  omega
theorem small_digits (d : Nat) (h : d < 19) : (List.replicate 32 0).set 0 d = dgN d 32 := by
  rw [dgN_small d (n := 1) (m := 32) (by decide) (by simp; omega)]
  have : dgN d 1 = [d] := by
    unfold dgN dg
    simp
    omega
  rw [this]
  rfl
/-- Some digits laid down, the others noughts. -/
theorem lay_next (x L i : Nat) (h : i < L) : (dgN x i ++ List.replicate (L - i) 0).set i (dg x i) = dgN x (i + 1) ++ List.replicate (L - (i + 1)) 0 := by
  obtain ⟨k, hk⟩ : ∃ k, L - i = k + 1 := ⟨L - i - 1, by omega⟩
  rw [List.set_append_right _ _ (by rw [dgN_length]; exact Nat.le_refl _), dgN_length, Nat.sub_self, hk, List.replicate_succ, List.set_cons_zero, ← dgN_next, List.append_assoc, show L - (i + 1) = k by omega]
  rfl
theorem lay_length (x L i : Nat) (h : i ≤ L) : (dgN x i ++ List.replicate (L - i) 0).length = L := by
  simp [dgN_length]
  omega
theorem lay_last (x L : Nat) (h : 32 ≤ L) : dv ((dgN x 32 ++ List.replicate (L - 32) 0).set 31 (dg x 31 % 128)) = x % 57896044618658097711785492504343953926634992332820282019728792003956564819968 := by
  rw [List.set_append_left _ _ (by rw [dgN_length]; decide), ← dgN_next x 31, List.set_append_right _ _ (by rw [dgN_length]; exact Nat.le_refl _), dgN_length, Nat.sub_self, List.set_cons_zero, dv_append, dv_zeros, Nat.mul_zero, Nat.add_zero, dv_snoc, dgN_length, dv_dgN, fold_low]
theorem lay_bound (x L : Nat) : ∀ y ∈ (dgN x 32 ++ List.replicate (L - 32) 0).set 31 (dg x 31 % 128), y ≤ 255 := by
  intro y hy
  rcases List.mem_or_eq_of_mem_set hy with h | h
  · rcases List.mem_append.1 h with h | h
    · have := dgN_lt _ _ _ h
      omega
    · rw [List.eq_of_mem_replicate h]
      omega
  · have := Nat.mod_lt (dg x 31) (show 0 < 128 by decide)
    omega
theorem high_dec (x L : Nat) (hx : x < 256 ^ L) (hL : 32 ≤ L) : (256 ^ 32 ≤ x % 256 ^ L ↔ 256 ^ 32 ≤ x) := by rw [Nat.mod_eq_of_lt hx]
theorem top_digit (x : Nat) (h : x < 256 ^ 32) : dg x 31 < 128 ↔ x < 57896044618658097711785492504343953926634992332820282019728792003956564819968 := by
  unfold dg
  omega

set_option maxRecDepth 100000 in
set_option maxHeartbeats 4000000 in
theorem modR_any (v : Value) (a : List Nat) (hB : ∀ x ∈ a, x ≤ 1099511627776) (hl : a.length ≤ 64) (w : World) (hr : RdI .i64 w v (nI a)) :
    Calls Try.prog 37 #[v] w fun e w' => ∃ r, e = .returned r ∧ RdI .i64 w' r (fdL (dv a)) ∧ Below w.heap.size w w' := by
  obtain ⟨ti, hti, hz0, hz1, hz2⟩ := info_parts infoI
  have hx : dv a < 256 ^ (a.length + 6) := by
    have h1 := dv_le _ a hB
    have h2 : 0 < 256 ^ a.length := Nat.pow_pos (by decide)
    rw [Nat.pow_add]
    generalize 256 ^ a.length = q at h1 h2 ⊢
    omega
  have HX : Hid (dv a < 256 ^ (a.length + 6)) := hx
  clear hx
  go_enter Try.func37, Try.ntmps37
  go_wp2_with fail
  refine (carryR_any _ a hB (by omega) _ hr).mono ?_
  rintro e w1 ⟨v1, L1, rfl, hL1, hx1, hmin, hN1⟩
  have hL1b := hmin (a.length + 6) (by omega) HX.out
  have HX1 : Hid (dv a < 256 ^ L1) := hx1
  have hL1c : L1 ≤ 100 := by omega
  clear hmin hx1 hL1 hL1b hB hl hr HX
  go_wp2
  go_loopw [0] (fun v wr => ∃ x L : Nat, L ≤ 100 ∧ Hid (x < 256 ^ L) ∧ Hid (x % pN = dv a % pN) ∧ NewI .i64 3 w v (nI (dgN x L)) wr) (fun v wr => vAt wr v)
  case atStart => exact ⟨dv a, L1, hL1c, HX1, rfl, hN1⟩
  case round =>
    obtain ⟨x, L, hL, Hx, Hm, hN⟩ := hrel
    clear hN1 HX1 hL1c
    have HV : Hid (vAt wr u0 = x) := by show _ = _; rw [vAt_eq hN.rd, dv_dgN, Nat.mod_eq_of_lt Hx.out]
    go_wp2
    go_loopw [0] (fun v wr2 => ∃ M : Nat, M ≤ 100 ∧ Hid (x < 256 ^ M) ∧ NewI .i64 3 w v (nI (dgN x M)) wr2) (fun v _ => 32 - sLen v)
    case atStart => exact ⟨L, hL, Hx, hN⟩
    case round =>
      obtain ⟨M, hM, HM, hNM⟩ := hrel
      clear hN Hx hL
      have HLM : Hid ((nI (dgN x M)).length = M) := by show _ = _; rw [nI_length, dgN_length]
      obtain ⟨am, cm, rfl, hcm, hcx, -, -⟩ := id hNM.rd
      unfold maxLen at hcx
      rw [HLM.out] at hcm ⊢
      by_cases hlt : M < 32
      · have hd : decide ((M : Int) < 32) = true := decide_eq_true (by omega)
        have hMI : (M : Int) < 32 := by omega
        have hL1 : RdI .i64 (wr.alloc (.cells #[.int .i64 0] 3)) (.slice (some ⟨wr.heap.size, 0, none⟩) 1 1) [0] := RdI.lit1 _
        have hNM' : NewI .i64 3 w (.slice am M cm) (nI (dgN x M)) wr := by rw [HLM.out] at hNM; exact hNM
        clear hNM
        go_wp2_with (at_builtin; go_must (refine wpList_append_newI (k := .i64) (w := w) rfl _ _ 41 rfl 3 Try.underlying41 8 infoI _ _ rfl (hNM'.alloc _) _ _ rfl hL1 (by rw [HLM.out]; simp; omega) (by rw [HLM.out]; simp; omega) ?_))
        intro v' w3 hN3 _
        have e : nI (dgN x M) ++ [0] = nI (dgN x (M + 1)) := by
          rw [← dgN_zero_next x M HM.out, ← nI_append]
          rfl
        rw [e] at hN3
        have HM1 : Hid (x < 256 ^ (M + 1)) := Nat.lt_of_lt_of_le HM.out (Nat.pow_le_pow_right (by decide) (by omega))
        obtain ⟨a3, c3, rfl, -, -, -, -⟩ := id hN3.rd
        have HL3 : Hid ((nI (dgN x (M + 1))).length = M + 1) := by show _ = _; rw [nI_length, dgN_length]
        rw [HL3.out] at hN3 ⊢
        clear e hL1 hNM' HM
        go_wp2
        go_roundw
        case rel => exact ⟨M + 1, by omega, HM1, hN3⟩
        case measure => simp [sLen]; omega
      · have hd : decide ((M : Int) < 32) = false := decide_eq_false (by omega)
        have hMI : (32 : Int) ≤ M := by omega
        have h32 : 32 ≤ M := by omega
        have H32 : Hid (32 ≤ M) := h32
        obtain ⟨gb, gc, ev, hgb, hglt, -, -, hcells, -, -⟩ := hNM.all (by rw [← List.length_pos_iff, HLM.out]; omega)
        simp only [Value.slice.injEq] at ev
        obtain ⟨rfl, -, rfl⟩ := ev
        have HC : Hid (∀ i, i < M → wr.cell? ⟨gb, i, none⟩ = some (.int .i64 ((dg x i : Nat) : Int))) := fun i hi => by rw [hcells i (by rw [HLM.out]; exact hi), nI_get, dgN_get _ _ _ hi]
        rw [HLM.out] at hNM
        have hRM := hNM.rd
        have HB2 : Hid _ := hNM.2
        have HR2 : Hid _ := hRM
        clear hcells hlt h32 hNM hRM
        go_wp2
        go_loop [3, 4] (fun h iv => ∃ i : Nat, iv = .int .i64 (i : Int) ∧ 32 ≤ i ∧ i ≤ M ∧ h = .bool (decide (256 ^ 32 ≤ x % 256 ^ i))) (fun _ iv => M - (intOf iv).toNat)
        case atStart =>
          refine ⟨32, rfl, by omega, H32.out, ?_⟩
          rw [decide_eq_false (by have := Nat.mod_lt x (show 0 < 256 ^ 32 by decide); omega)]
        case round =>
          obtain ⟨i, rfl, hi32, hiM, rfl⟩ := hrel
          by_cases hilt : i < M
          · have hdi : decide ((i : Int) < (M : Int)) = true := decide_eq_true (by omega)
            have hiI : (i : Int) < M := by omega
            have hci := HC.out i hilt
            have HS : Hid _ := high_step x i hi32
            by_cases hh : 256 ^ 32 ≤ x % 256 ^ i
            · rw [decide_eq_true hh]
              have HE : Hid (decide (256 ^ 32 ≤ x % 256 ^ (i + 1)) = true) := decide_eq_true (HS.out.2 (.inl hh))
              clear hh HS
              generalize dg x i = q at hci
              go_wp2
              go_round
              case rel => exact ⟨i + 1, by go_num, by omega, by omega, by rw [HE.out]⟩
              case measure => simp [intOf]; omega
            · rw [decide_eq_false hh]
              by_cases hq : 0 < dg x i
              · have HE : Hid (decide (256 ^ 32 ≤ x % 256 ^ (i + 1)) = true) := decide_eq_true (HS.out.2 (.inr hq))
                have hdq : decide ((0 : Int) < ((dg x i : Nat) : Int)) = true := decide_eq_true (by omega)
                have hqI : (0 : Int) < ((dg x i : Nat) : Int) := by omega
                clear hh HS
                generalize dg x i = q at hci hq hdq hqI
                go_wp2
                go_round
                case rel => exact ⟨i + 1, by go_num, by omega, by omega, by rw [HE.out]⟩
                case measure => simp [intOf]; omega
              · have HE : Hid (decide (256 ^ 32 ≤ x % 256 ^ (i + 1)) = false) := decide_eq_false fun h => (HS.out.1 h).elim hh hq
                have hq0 : dg x i = 0 := by omega
                rw [hq0] at hci
                clear hh HS hq hq0
                go_wp2
                go_round
                case rel => exact ⟨i + 1, by go_num, by omega, by omega, by rw [HE.out]⟩
                case measure => simp [intOf]; omega
          · have hie : i = M := by omega
            have hdi : decide ((i : Int) < (M : Int)) = false := decide_eq_false (by omega)
            have hiI : (M : Int) ≤ i := by omega
            have e1 : decide (256 ^ 32 ≤ x % 256 ^ i) = decide (256 ^ 32 ≤ x) := by
              rw [hie]
              exact decide_eq_decide.2 (high_dec x M HM.out H32.out)
            rw [e1]
            have hc31 := HC.out 31 (by have := H32.out; omega)
            have hc0 := HC.out 0 (by have := H32.out; omega)
            clear e1 hie
            by_cases hsm : x < 57896044618658097711785492504343953926634992332820282019728792003956564819968
            · have hno : ¬ 256 ^ 32 ≤ x := by
                intro h
                have : (57896044618658097711785492504343953926634992332820282019728792003956564819968 : Nat) < 256 ^ 32 := by decide
                omega
              rw [decide_eq_false hno]
              have h128 := (top_digit x (by omega)).2 hsm
              have hd1 : decide (((dg x 31 : Nat) : Int) < 128) = true := decide_eq_true (by omega)
              have hd2 : ((dg x 31 : Nat) : Int) < 128 := by omega
              have hRT := RdI.take HR2.out (n := 32) H32.out
              rw [nI_take, dgN_take x H32.out] at hRT
              have HSM : Hid _ := hsm
              clear hno h128 hsm
              generalize dg x 31 = q at hc31 hd1 hd2
              go_wp2_with fail
              refine (lowR_any _ x HSM.out _ hRT).mono ?_
              rintro e w5 ⟨rfl, rfl⟩
              by_cases hp : x < pN
              · rw [decide_eq_true hp]
                have HF : Hid (nI (dgN x 32) = fdL (dv a)) := by show _ = _; unfold fdL; rw [← Hm.out, Nat.mod_eq_of_lt hp]
                clear hp
                go_wp2
                go_ret
                exact ⟨_, rfl, by rw [← HF.out]; exact hRT, HB2.out⟩
              · rw [decide_eq_false hp]
                obtain ⟨hs1, hs2⟩ := last_small x (by omega) HSM.out
                obtain ⟨d, hdd⟩ : ∃ d : Nat, d = x % pN := ⟨_, rfl⟩
                rw [← hdd] at hs1 hs2
                rw [hs1] at hc0
                have HF : Hid (nI (dgN d 32) = fdL (dv a)) := by show _ = _; unfold fdL; rw [← Hm.out, hdd]
                have ed : IntKind.i64.wrap (((237 + d : Nat) : Int) - 237) = (d : Int) := by rw [IntWalk.i64_in _ (by omega)]; omega
                clear hp hs1 hdd
                generalize 237 + d = q0 at hc0 ed
                go_wp2_with (at_make; go_must (refine wpList_make_full _ rfl _ _ 41 rfl _ 3 ti _ 1 Try.underlying41 hti hz0 hz1 _ _ _ _ 32 rfl rfl rfl rfl (by rw [hz2]; omega) (by unfold maxLen; omega) (Nat.le_refl _) ?_))
                intro w6 hown hgr
                have hN6 := NewI.made hown hgr
                obtain ⟨g6, c6, ev, -, -, h60, h61, h62⟩ := hN6.at (j := 0) (by simp)
                simp only [Value.slice.injEq, Option.some.injEq, Addr.mk.injEq, and_true, true_and] at ev
                obtain ⟨rfl, -, rfl⟩ := ev
                have h63 := h62 (d : Int)
                have hc06 : w6.cell? ⟨gb, 0, none⟩ = some (.int .i64 (q0 : Int)) := by
                  rw [hN6.2.cell (p := ⟨gb, 0, none⟩) hglt]
                  exact hc0
                have e9 : (List.replicate 32 (0 : Int)).set 0 (d : Int) = nI (dgN d 32) := by
                  rw [← small_digits d hs2, ← nI_set, nI_zeros]
                rw [e9] at h63
                have HB6 : Hid _ := h63.2
                have HR6 : Hid _ := h63.rd
                clear hown hgr hN6 h62 h63 e9 hc0
                go_wp2
                go_ret
                exact ⟨_, rfl, by rw [← HF.out]; exact HR6.out, stepB HB2.out HB6.out⟩
            · have HGE : Hid (57896044618658097711785492504343953926634992332820282019728792003956564819968 ≤ x) := show _ ≤ _ by omega
              rename World => WA
              have hM2 : (M : Int).toNat = M := by omega
              by_cases hh : 256 ^ 32 ≤ x
              case' pos => rw [decide_eq_true hh]
              case' neg =>
                rw [decide_eq_false hh]
                have h128 : ¬ dg x 31 < 128 := fun h => hsm ((top_digit x (by omega)).1 h)
                have hd1 : decide (((dg x 31 : Nat) : Int) < 128) = false := decide_eq_false (by omega)
                have hd2 : (128 : Int) ≤ ((dg x 31 : Nat) : Int) := by omega
              all_goals
                go_wp2_with (at_make; go_must (refine wpList_make_full _ rfl _ _ 41 rfl _ 3 ti _ 1 Try.underlying41 hti hz0 hz1 _ _ _ _ M rfl rfl (by omega) (by omega) (by rw [hz2]; omega) (by unfold maxLen; omega) (Nat.le_refl _) ?_))
                intro w3 hown hgr
                have hN3 := NewI.made hown hgr
                clear hown hgr hh
                go_wp2
                go_loopw [6] (fun iv wx => ∃ i : Nat, i ≤ 32 ∧ iv = .int .i64 (i : Int) ∧ NewI .i64 3 WA (.slice (some ⟨WA.heap.size, 0, none⟩) M M) (nI (dgN x i ++ List.replicate (M - i) 0)) wx) (fun iv _ => 32 - (intOf iv).toNat)
                case atStart => exact ⟨0, by omega, rfl, by simpa [dgN, nI] using hN3⟩
                case round =>
                  obtain ⟨i, hi, rfl, hNC⟩ := hrel
                  rename World => WC
                  clear hN3 hdi hiI
                  by_cases hl : i < 32
                  · have hdi : decide ((i : Int) < 32) = true := decide_eq_true (by omega)
                    have hiI : (i : Int) < 32 := by omega
                    have hiM2 : (i : Int) < M := by omega
                    have hci : WC.cell? ⟨gb, i, none⟩ = some (.int .i64 ((dg x i : Nat) : Int)) := by
                      rw [hNC.2.cell (p := ⟨gb, i, none⟩) hglt]
                      exact HC.out i (by have := H32.out; omega)
                    obtain ⟨g, c, ev, -, -, k1, k2, k3⟩ := hNC.at (j := i) (by rw [nI_length, lay_length _ _ _ (by have := H32.out; omega)]; have := H32.out; omega)
                    simp only [Value.slice.injEq, Option.some.injEq, Addr.mk.injEq, and_true, true_and] at ev
                    obtain ⟨rfl, -, rfl⟩ := ev
                    have k4 := k3 ((dg x i : Nat) : Int)
                    rw [nI_set, lay_next x M i (by have := H32.out; omega)] at k4
                    generalize (nI (dgN x i ++ List.replicate (M - i) 0)).getD i 0 = z at k1
                    have HK4 : Hid _ := k4
                    generalize dg x i = q at hci HK4
                    clear hNC k3 k4 hc31 hc0
                    go_wp2
                    go_roundw
                    case rel => exact ⟨i + 1, by omega, by go_num, HK4.out⟩
                    case measure => simp [intOf]; omega
                  · have hie : i = 32 := by omega
                    subst hie
                    have hc31C : WC.cell? ⟨gb, 31, none⟩ = some (.int .i64 ((dg x 31 : Nat) : Int)) := by
                      rw [hNC.2.cell (p := ⟨gb, 31, none⟩) hglt]
                      exact hc31
                    obtain ⟨g, c, ev, -, -, k1, k2, k3⟩ := hNC.at (j := 31) (by rw [nI_length, lay_length _ _ _ (by have := H32.out; omega)]; have := H32.out; omega)
                    simp only [Value.slice.injEq, Option.some.injEq, Addr.mk.injEq, and_true, true_and] at ev
                    obtain ⟨rfl, -, rfl⟩ := ev
                    have k4 := k3 ((dg x 31 % 128 : Nat) : Int)
                    rw [nI_set] at k4
                    obtain ⟨o, ho⟩ : ∃ o, o = (dgN x 32 ++ List.replicate (M - 32) 0).set 31 (dg x 31 % 128) := ⟨_, rfl⟩
                    rw [← ho] at k4
                    have HD : Hid (dv o = x % 57896044618658097711785492504343953926634992332820282019728792003956564819968) := by show _ = _; rw [ho]; exact lay_last x M H32.out
                    have HO : Hid (o.length = M) := by show _ = _; rw [ho, List.length_set]; exact lay_length x M 32 H32.out
                    have HOB : Hid (∀ y ∈ o, y ≤ 255) := by rw [ho]; exact lay_bound x M
                    have em : ((dg x 31 : Nat) : Int).tmod 128 = ((dg x 31 % 128 : Nat) : Int) := by rw [Int.tmod_eq_emod_of_nonneg (by omega)]; omega
                    have hq31 : dg x 31 % 128 < 128 := Nat.mod_lt _ (by decide)
                    have hq32 := dg_lt x 31
                    have HK4 : Hid _ := k4
                    generalize (nI (dgN x 32 ++ List.replicate (M - 32) 0)).getD 31 0 = z at k1
                    generalize dg x 31 % 128 = q at em HK4 hq31
                    generalize dg x 31 = q0 at hc31C em hq32
                    have hM31 : (31 : Int) < M := by omega
                    clear hNC k3 k4 ho hc31 hc0 hl
                    go_wp2
                    go_loopw [7] (fun iv wx => ∃ (i : Nat) (o : List Nat), iv = .int .i64 (i : Int) ∧ i + 31 ≤ M ∧ Hid (o.length = M) ∧ Hid (∀ y ∈ o, y ≤ 255 + i * 4845) ∧ Hid (dv o = x % 57896044618658097711785492504343953926634992332820282019728792003956564819968 + 19 * (x / 57896044618658097711785492504343953926634992332820282019728792003956564819968 % 256 ^ i)) ∧ NewI .i64 3 WA (.slice (some ⟨WA.heap.size, 0, none⟩) M M) (nI o) wx) (fun iv _ => M - (intOf iv).toNat)
                    case atStart => exact ⟨0, o, rfl, by have := H32.out; omega, HO, fun y hy => by simpa using HOB.out y hy, by show _ = _; rw [HD.out, Nat.pow_zero, Nat.mod_one, Nat.mul_zero, Nat.add_zero], HK4.out⟩
                    case round =>
                      obtain ⟨i, o2, rfl, hi2, HO2, HB3, HD2, hND⟩ := hrel
                      rename World => WD
                      clear HK4 HD HO HOB k1 k2 hc31C em
                      have hq1 := dg_lt x (i + 31)
                      have hq2 := dg_lt x (i + 32)
                      by_cases hl : i + 31 < M
                      · have e31 : ((i : Int) + 31).toNat = i + 31 := by omega
                        have w31 : IntKind.i64.wrap ((i : Int) + 31) = (i : Int) + 31 := IntWalk.i64_in _ (by omega)
                        have w32 : IntKind.i64.wrap ((i : Int) + 32) = (i : Int) + 32 := IntWalk.i64_in _ (by omega)
                        have hl31 : decide ((i : Int) + 31 < (M : Int)) = true := decide_eq_true (by omega)
                        have hlI : (i : Int) + 31 < (M : Int) := by omega
                        have hiM2 : (i : Int) < M := by omega
                        have hc1 : WD.cell? ⟨gb, i + 31, none⟩ = some (.int .i64 ((dg x (i + 31) : Nat) : Int)) := by
                          rw [hND.2.cell (p := ⟨gb, i + 31, none⟩) hglt]
                          exact HC.out (i + 31) hl
                        obtain ⟨g, c, ev, -, -, k1, k2, k3⟩ := hND.at (j := i) (by rw [nI_length, HO2.out]; omega)
                        simp only [Value.slice.injEq, Option.some.injEq, Addr.mk.injEq, and_true, true_and] at ev
                        obtain ⟨rfl, -, rfl⟩ := ev
                        rw [nI_get] at k1
                        have hzb := getD_le HB3.out i
                        obtain ⟨n, hn⟩ : ∃ n : Nat, n = dg (x / 57896044618658097711785492504343953926634992332820282019728792003956564819968) i := ⟨_, rfl⟩
                        have hn2 := hn.trans (high_digit x i)
                        have hnb : n < 256 := by rw [hn]; exact dg_lt _ _
                        have k4 := k3 ((o2.getD i 0 + 19 * n : Nat) : Int)
                        rw [nI_set] at k4
                        have HDN : Hid (dv (o2.set i (o2.getD i 0 + 19 * n)) = x % 57896044618658097711785492504343953926634992332820282019728792003956564819968 + 19 * (x / 57896044618658097711785492504343953926634992332820282019728792003956564819968 % 256 ^ (i + 1))) := by
                          show _ = _
                          rw [dv_set _ _ _ (by rw [HO2.out]; omega), HD2.out, mod_succ, ← hn, Nat.mul_add, Nat.add_assoc, Nat.mul_left_comm]
                        have HBN : Hid (∀ y ∈ o2.set i (o2.getD i 0 + 19 * n), y ≤ 255 + (i + 1) * 4845) := by
                          intro y hy
                          rcases List.mem_or_eq_of_mem_set hy with h | h
                          · have := HB3.out y h
                            omega
                          · rw [h]
                            omega
                        have HON : Hid ((o2.set i (o2.getD i 0 + 19 * n)).length = M) := by show _ = _; rw [List.length_set]; exact HO2.out
                        generalize ho3 : o2.set i (o2.getD i 0 + 19 * n) = o3 at k4 HDN HBN HON
                        have HK4 : Hid _ := k4
                        generalize o2.getD i 0 = z at k1 hzb HK4
                        have hzb2 : z ≤ 1000000 := by omega
                        have ew : IntKind.i64.wrap ((z : Int) + 19 * (n : Int)) = ((z + 19 * n : Nat) : Int) := by rw [IntWalk.i64_in _ (by omega)]; omega
                        have e19 : IntKind.i64.wrap (19 * (n : Int)) = 19 * (n : Int) := IntWalk.i64_in _ (by omega)
                        obtain ⟨n1, hn1⟩ : ∃ n1 : Nat, n1 = dg x (i + 31) / 128 := ⟨_, rfl⟩
                        have et1 : ((dg x (i + 31) : Nat) : Int).tdiv 128 = (n1 : Int) := by rw [Int.tdiv_eq_ediv_of_nonneg (by omega)]; omega
                        have ewn1 : IntKind.i64.wrap (n1 : Int) = (n1 : Int) := IntWalk.i64_in _ (by omega)
                        by_cases hl2 : i + 32 < M
                        · have e32 : ((i : Int) + 32).toNat = i + 32 := by omega
                          have hl32 : decide ((i : Int) + 32 < (M : Int)) = true := decide_eq_true (by omega)
                          have hlJ : (i : Int) + 32 < (M : Int) := by omega
                          have hc2 : WD.cell? ⟨gb, i + 32, none⟩ = some (.int .i64 ((dg x (i + 32) : Nat) : Int)) := by
                            rw [hND.2.cell (p := ⟨gb, i + 32, none⟩) hglt]
                            exact HC.out (i + 32) hl2
                          obtain ⟨n2, hn22⟩ : ∃ n2 : Nat, n2 = dg x (i + 32) % 128 := ⟨_, rfl⟩
                          have et2 : ((dg x (i + 32) : Nat) : Int).tmod 128 = (n2 : Int) := by rw [Int.tmod_eq_emod_of_nonneg (by omega)]; omega
                          have ewn2 : IntKind.i64.wrap (n2 : Int) = (n2 : Int) := IntWalk.i64_in _ (by omega)
                          have ew2 : IntKind.i64.wrap ((n2 : Int) * 2) = (n2 : Int) * 2 := IntWalk.i64_in _ (by omega)
                          have ew3 : IntKind.i64.wrap ((n1 : Int) + (n2 : Int) * 2) = (n : Int) := by rw [IntWalk.i64_in _ (by omega)]; omega
                          generalize dg x (i + 31) = q1 at hc1 et1
                          generalize dg x (i + 32) = q2 at hc2 et2
                          clear hND k3 k4 hn hn2 ho3 hn1 hn22 hq1 hq2 HB3 HD2 HO2
                          go_wp2
                          go_roundw
                          case rel => exact ⟨i + 1, o3, by go_num, by omega, HON, HBN, HDN, HK4.out⟩
                          case measure => simp [intOf]; omega
                        · have hl32 : decide ((i : Int) + 32 < (M : Int)) = false := decide_eq_false (by omega)
                          have hlJ : (M : Int) ≤ (i : Int) + 32 := by omega
                          have hz2' : dg x (i + 32) = 0 := by
                            unfold dg
                            rw [Nat.div_eq_of_lt (Nat.lt_of_lt_of_le HM.out (Nat.pow_le_pow_right (by decide) (by omega)))]
                          have hnn : n1 = n := by rw [hn2, hz2', hn1]; simp
                          subst hnn
                          generalize dg x (i + 31) = q1 at hc1 et1
                          clear hND k3 k4 hn hn2 ho3 hn1 hq1 hq2 HB3 HD2 HO2 hz2'
                          go_wp2
                          go_roundw
                          case rel => exact ⟨i + 1, o3, by go_num, by omega, HON, HBN, HDN, HK4.out⟩
                          case measure => simp [intOf]; omega
                      · have hie : i = M - 31 := by omega
                        have w31 : IntKind.i64.wrap ((i : Int) + 31) = (i : Int) + 31 := IntWalk.i64_in _ (by omega)
                        have hl31 : decide ((i : Int) + 31 < (M : Int)) = false := decide_eq_false (by omega)
                        have hlI : (M : Int) ≤ (i : Int) + 31 := by omega
                        have HF : Hid (dv o2 = foldN x) := by
                          show _ = _
                          rw [HD2.out, hie, Nat.mod_eq_of_lt (fold_bound x M H32.out HM.out)]
                          rfl
                        have hob : ∀ y ∈ o2, y ≤ 1099511627776 := fun y hy => by
                          have := HB3.out y hy
                          omega
                        have hRD := hND.rd
                        have HBD : Hid _ := stepB HB2.out hND.2
                        have HOB : Hid _ := hob
                        clear hie hND HB3 HD2 hob hq1 hq2
                        go_wp2_with fail
                        refine (carryR_any _ o2 HOB.out (by rw [HO2.out]; omega) _ hRD).mono ?_
                        rintro e w9 ⟨v9, L9, rfl, hL9, hx9, hmin, hN9⟩
                        rw [HF.out] at hx9 hmin hN9
                        have hfl := foldN_lt x HGE.out
                        have hL9b := hmin M (by rw [HO2.out]; exact Nat.le_refl _) (Nat.lt_trans hfl HM.out)
                        have HX9 : Hid (foldN x < 256 ^ L9) := hx9
                        have HN9 : Hid _ := hN9.from HBD.out
                        have HFL : Hid (foldN x < x) := hfl
                        have hL9c : L9 ≤ 100 := by omega
                        have HVE : Hid (vAt w9 v9 = foldN x) := by show _ = _; rw [vAt_eq hN9.rd, dv_dgN, Nat.mod_eq_of_lt hx9]
                        clear hmin hx9 hN9 hfl hL9 hL9b hRD
                        go_wp2
                        go_roundw
                        case rel => exact ⟨foldN x, L9, hL9c, HX9, (foldN_mod x).trans Hm.out, HN9.out⟩
                        case measure =>
                          have h1 := HV.out
                          have h2 := HVE.out
                          have h3 := HFL.out
                          simp
                          omega
end Go.Proofs.Ythokfcmnijpkhaa
