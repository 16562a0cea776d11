/- The walk of the law SampleSmall. -/
import Derived.Test.YtlcnepnappfjeabDoorL12h
import Derived.Test.YtlcnepnappfjeabDoorL12i
namespace Go.Proofs.YtlcnepnappfjeabDoor
open Go.ChangeShapes Go.WideShapes Go.ChangeAt Go.RowKit
set_option linter.unusedSimpArgs false
set_option linter.unusedVariables false

theorem small_facts (e z : Nat) (he : e ≤ 3) (hz : z < 3329) (h : z ≤ e ∨ 3329 - e ≤ z) : ∃ c : Nat, IntKind.i64.wrap (3329 - (e : Int)) = (c : Int) ∧ decide ((z : Int) < 0) = false ∧ (0 : Int) ≤ (z : Int) ∧ decide ((3329 : Int) ≤ (z : Int)) = false ∧ (z : Int) < 3329 ∧
    ((decide ((e : Int) < (z : Int)) = false ∧ (z : Int) ≤ (e : Int)) ∨ (decide ((e : Int) < (z : Int)) = true ∧ (e : Int) < (z : Int) ∧ decide ((z : Int) < (c : Int)) = false ∧ (c : Int) ≤ (z : Int))) := by
  refine ⟨3329 - e, ?_, decide_eq_false (by omega), by omega, decide_eq_false (by omega), by omega, ?_⟩
  · rw [IntWalk.i64_in _ (by omega)]; omega
  · by_cases h1 : e < z
    · exact .inr ⟨decide_eq_true (by omega), by omega, decide_eq_false (by omega), by omega⟩
    · exact .inl ⟨decide_eq_false (by omega), by omega⟩

set_option maxRecDepth 100000 in
set_option maxHeartbeats 8000000 in
theorem small_walk (E : Int) (v : Value) (l : List UInt8) (n : UInt8) (N : Int) (hN : N = (n.toNat : Int)) (w : World) (hr : Rd w v l) (hT : Tabs w) :
    Calls Tryd.prog 3 #[.int .i64 E, v, .int .u8 N] w fun e w' => e = .returned (.bool true) ∧ Below w.heap.size w w' := by
  obtain ⟨ti, hti, hz0, hz1, hz2⟩ := info_parts infoS5
  obtain ⟨av, cv, rfl, -, -, -, -⟩ := id hr
  have HN : Hid (N = (n.toNat : Int)) := hN
  clear hN
  go_enter Tryd.func3, Tryd.ntmps3
  go_wp2_with fail
  refine (awake_any _ hT).mono ?_
  rintro e w1 ⟨rfl, hbw⟩
  replace hr := hr.kept hbw
  replace hT := hT.kept hbw
  by_cases h : l.length ≤ 500
  · have d1 : decide ((500 : Int) < (l.length : Int)) = false := decide_eq_false (by omega)
    have d2 : (l.length : Int) ≤ 500 := by omega
    have H : Hid (l.length ≤ 900000) := by show _ ≤ _; omega
    clear h
    go_wp2_with fail
    refine (sprf_all E _ l n _ HN.out H.out _ hr hT).mono ?_
    rintro e d1 ⟨he, bn⟩
    obtain ⟨Pa, hP⟩ : ∃ P : Nat → FZ, P = (prA E l n).1 := ⟨_, rfl⟩
    obtain ⟨ea, hE⟩ : ∃ z : Int, z = (prA E l n).2 := ⟨_, rfl⟩
    rw [← hP, ← hE] at he
    have HPa : Hid _ := hP
    have HEa : Hid _ := hE
    clear hP hE
    subst he
    have hb0 := bn
    go_wp2_with (refine wpList_alloc_row (k := .i64) rfl 25 rfl (gI fun _ => 0) (alloc_poS _) (gI_ne _) (poMax _) ?_)
    intro e1 ro bo so
    rw [gI_length] at ro
    replace hb0 := stepB hb0 bo
    clear so bo
    go_wp2_with (refine wpList_store_row rfl 25 _ _ rfl (gI (fzF Pa)) rfl rfl ro (by rw [gI_length, gI_length]) (poInfoS _) ?_)
    intro g1 ra hw
    replace hb0 := hw.below _ _ bn.size hb0
    replace hr := hr.kept hb0
    replace hT := hT.kept hb0
    replace hbw := stepB hbw hb0
    clear hb0 hw bn ro
    clear hr hT
    by_cases hE : 1 ≤ E ∧ E ≤ 3
    · obtain ⟨q, rfl⟩ : ∃ q : Nat, E = (q : Int) := ⟨E.toNat, by omega⟩
      have hq1 : 1 ≤ q := by omega
      have hq3 : q ≤ 3 := by omega
      have dA : decide ((q : Int) < 1) = false := decide_eq_false (by omega)
      have dB : decide (3 < (q : Int)) = false := decide_eq_false (by omega)
      have dC : (1 : Int) ≤ (q : Int) := by omega
      have dD : (q : Int) ≤ 3 := by omega
      have HS : Hid (∀ k, (Pa k).val ≤ q ∨ 3329 - q ≤ (Pa k).val) := by
        show ∀ k, _
        intro k
        rw [HPa.out]
        unfold prA
        rw [if_pos hE]
        exact ns_small q _ k hq3
      have hEa : ea = 0 := by
        rw [HEa.out]
        unfold prA
        rw [if_pos hE]
      subst hEa
      have HP : Hid _ := HPa
      clear HPa HEa hE HP
      rename World => wv
      go_wp2
      go_loopw [10] (fun iv wx => ∃ i : Nat, i ≤ 256 ∧ iv = .int .i64 (i : Int) ∧ wx = wv) (fun iv _ => 256 - (intOf iv).toNat)
      case atStart => exact ⟨0, by omega, rfl, rfl⟩
      case round =>
        obtain ⟨i, hi, rfl, rfl⟩ := hrel
        by_cases hlt : i < 256
        · have hd : decide ((i : Int) < 256) = true := decide_eq_true (by omega)
          have hiI : (i : Int) < 256 := by omega
          have hcell := cell_fzS ra i hlt _ rfl
          obtain ⟨c, f1, f2, f3, f4, f5, f6⟩ := small_facts q (Pa i).val hq3 (Pa i).isLt (HS.out i)
          generalize (Pa i).val = z at hcell f2 f3 f4 f5 f6
          rcases f6 with ⟨g1, g2⟩ | ⟨g1, g2, g3, g4⟩
          all_goals
            go_wp2
            go_roundw
            case rel => exact ⟨i + 1, by omega, by go_num, trivial⟩
            case measure => simp [intOf] <;> omega
        · have hd : decide ((i : Int) < 256) = false := decide_eq_false (by omega)
          have hiI : (256 : Int) ≤ (i : Int) := by omega
          obtain ⟨m, hm⟩ : ∃ m : Nat, m = 64 * q := ⟨_, rfl⟩
          have xm : IntKind.i64.wrap (64 * (q : Int)) = (m : Int) := by rw [IntWalk.i64_in _ (by omega)]; omega
          have xm2 : 64 * (q : Int) = (m : Int) := by omega
          have hmb : m ≤ 192 := by omega
          have HM : Hid (m = 64 * q) := hm
          clear hm ra
          rename World => w3
          go_wp2_with (at_make; go_must (refine wpList_make_full _ rfl _ _ 22 rfl w3.heap.size 5 ti _ 1 Tryd.underlying22 hti hz0 hz1 _ _ _ _ m rfl rfl (by omega) (by omega) (by rw [hz2]; omega) (by unfold maxLen; omega) (Nat.le_refl _) ?_))
          intro w4 hown hgr
          have hN0 := New.made hown hgr
          rw [← flR_zero m 255] at hN0
          clear hown hgr
          go_wp2
          go_loopw [12] (fun jv wx => ∃ j : Nat, j ≤ m ∧ jv = .int .i64 (j : Int) ∧ New 5 w3 (.slice (some ⟨w3.heap.size, 0, none⟩) m m) (flR m 255 j) wx) (fun jv _ => m - (intOf jv).toNat)
          case atStart => exact ⟨0, by omega, rfl, hN0⟩
          case round =>
            obtain ⟨j, hj, rfl, hN⟩ := hrel
            clear hN0
            by_cases hltj : j < m
            · have hdj : decide ((j : Int) < (m : Int)) = true := decide_eq_true (by omega)
              have hjI : (j : Int) < (m : Int) := by omega
              obtain ⟨g', c', ev, -, hcell, hfree, hset⟩ := hN.store (j := j) (by rw [flR_length]; exact hltj)
              simp only [Value.slice.injEq, Option.some.injEq, Addr.mk.injEq, and_true, true_and] at ev
              obtain ⟨rfl, -, rfl⟩ := ev
              have hN2 := hset 255
              rw [flR_set] at hN2
              have HN2 : Hid (New 5 w3 (.slice (some ⟨w3.heap.size, 0, none⟩) m m) (flR m 255 (j + 1)) (wr.setCell ⟨w3.heap.size, j, none⟩ (.int .u8 255))) := hN2
              clear hN hset hN2
              go_wp2
              go_roundw
              case rel => exact ⟨j + 1, by omega, by go_num, HN2.out⟩
              case measure => simp [intOf] <;> omega
            · have hje : j = m := by omega
              have hdj : decide ((j : Int) < (m : Int)) = false := decide_eq_false (by omega)
              have hjI : (m : Int) ≤ (j : Int) := by omega
              rw [hje, flR_full] at hN
              clear hje
              have hb := hN.rd
              replace hbw := stepB hbw hN.2
              obtain ⟨B, hB⟩ : ∃ B : List UInt8, B = List.replicate m 255 := ⟨_, rfl⟩
              rw [← hB] at hb
              have HZ : Hid (∀ k, k < 256 → nsF q B k = 0) := by
                show ∀ k, _
                intro k hk
                rw [hB, HM.out]
                exact ns_ones q k hq3 hk
              have HL : Hid (B.length = 64 * q) := by show _ = _; rw [hB, List.length_replicate]; exact HM.out
              clear hN hB
              rename World => w5
              go_wp2_with fail
              refine (snoise_any q _ rfl hq1 hq3 _ B _ hb HL.out).mono ?_
              rintro e w6 ⟨he, bn⟩
              obtain ⟨X, hX⟩ : ∃ X : Nat → FZ, X = nsF q B := ⟨_, rfl⟩
              rw [← hX] at he HZ
              subst he
              have hb0 := bn
              clear hX hb
              go_wp2_with (refine wpList_alloc_row (k := .i64) rfl 25 rfl (gI fun _ => 0) (alloc_poS _) (gI_ne _) (poMax _) ?_)
              intro w7 ro bo so
              rw [gI_length] at ro
              replace hb0 := stepB hb0 bo
              clear so bo
              go_wp2_with (refine wpList_store_row rfl 25 _ _ rfl (gI (fzF X)) rfl rfl ro (by rw [gI_length, gI_length]) (poInfoS _) ?_)
              intro w8 rx hw
              replace hb0 := hw.below _ _ bn.size hb0
              replace hbw := stepB hbw hb0
              clear hb0 hw bn ro
              have qx : ∀ w, _ := eq_zeroS (f := X) HZ.out
              go_wp2_with (first
                | refine wpList_valG (exec_load_row' 25 (.tmp 13) rfl rfl rx (Below.refl _ _) _ Tryd.underlying25 rfl (poInfoS _)) (by go_simp; done) ?_
                | refine wpList_valG (exec_build 24 #[] rfl #[] (by simp) _ (build_poI _)) (by go_simp; done) ?_)
              go_ret
              exact ⟨rfl, hbw⟩
    · have hEa : ea = 1 := by
        rw [HEa.out]
        unfold prA
        rw [if_neg hE]
      subst hEa
      have hcase : (decide (E < 1) = true ∧ E < 1) ∨ (decide (E < 1) = false ∧ decide (3 < E) = true ∧ 1 ≤ E ∧ 3 < E) := by
        by_cases h1 : E < 1
        · exact .inl ⟨decide_eq_true h1, h1⟩
        · exact .inr ⟨decide_eq_false h1, decide_eq_true (by omega), by omega, by omega⟩
      clear HEa HPa hE
      rcases hcase with ⟨c1, c2⟩ | ⟨c1, c2, c3, c4⟩
      all_goals
        go_wp2
        go_ret
        exact ⟨rfl, hbw⟩
  · have d1 : decide ((500 : Int) < (l.length : Int)) = true := decide_eq_true (by omega)
    have d2 : (500 : Int) < (l.length : Int) := by omega
    clear h
    go_wp2
    go_ret
    exact ⟨rfl, hbw⟩
end Go.Proofs.YtlcnepnappfjeabDoor
