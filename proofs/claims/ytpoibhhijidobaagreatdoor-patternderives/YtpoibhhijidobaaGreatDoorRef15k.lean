/- A pattern's secrets: contracts of the reference of layer 15, eleventh part. -/
import Derived.Test.YtpoibhhijidobaaGreatDoorQa
namespace Go.Proofs.YtpoibhhijidobaaGreatDoor
open Go.ChangeShapes Go.WideShapes Go.ChangeAt Go.RowKit
set_option linter.unusedSimpArgs false
set_option linter.unusedVariables false

theorem cellK15 {w W : World} {p : Addr} {v : Value} (h : w.cell? p = some v) (hb : Below w.heap.size w W) : W.cell? p = some v := by
  rw [hb.cell (World.block_lt_of_cell? _ _ h)]
  exact h
theorem infoSec : (Tryz.prog.info? 52).map (fun i => (i.zero, i.size, i.bytes)) = some (some (.agg #[.int .i64 0, .slice none 0 0]), 2, 32) := by kernel_rfl

set_option maxRecDepth 100000 in
set_option maxHeartbeats 16000000 in
theorem secrets15_any (p : Ptn) (hp : p.name.length ≤ 1000000) (A : Array Value) (vi vl : Value) (hA : A = (ptC p vi vl).toArray) (w : World) (hR : PtR w p vi vl) :
    Calls Tryz.prog 20 #[.agg A] w fun e w' => ∃ (v : Value) (LK : List ((Int × List (Bool × Int)) × Value)), e = .returned v ∧ LK.map (·.1) = secL p ∧ OwnG w (⟨52, 2, v, LK.length, seX LK⟩ :: seK 57 LK) w' := by
  obtain ⟨ti, hti, hz0, hz1, hz2⟩ := info_parts infoSec
  obtain ⟨al, cl, rfl, hl1, hl2⟩ := hR.len
  obtain ⟨ai, ci, rfl, hi1, hi2⟩ := hR.lenI
  unfold maxLen at hl2 hi2
  obtain ⟨n, hn⟩ : ∃ n : Nat, n = p.n := ⟨_, rfl⟩
  rw [← hn] at hR hl1 hi1 hA
  have HN : Hid (n = p.n) := hn
  have HR : Hid (PtR w p (.slice ai n ci) (.slice al n cl)) := hR
  have HP : Hid (p.name.length ≤ 1000000) := hp
  clear hR hn hp
  go_enter Tryz.func20, Tryz.ntmps20
  go_wp2_with (refine wpList_box_blk rfl 33 _ rfl (ptC p (.slice ai n ci) (.slice al n cl)) (by rw [← hA]; rfl) ?_)
  intro w1 hB b1 s1
  have hB0 : BlkAt w.heap.size 33 ([] ++ ptC p (.slice ai n ci) (.slice al n cl) ++ []) w1 := by rw [List.append_nil]; exact hB
  have hR1 := HR.out.kept b1
  have hbw := b1
  clear hB b1 s1 hA
  go_wp2_with (refine wpList_load_blk rfl 33 _ rfl (g := w.heap.size) (o := 0) (by go_simp; done) hB0 rfl Tryz.underlying33 rfl (ptInfo _ _ _) ?_)
  refine (written15_any p HP.out _ _ _ rfl _ hR1).mono ?_
  rintro e w2 ⟨rfl, b2⟩
  replace hB0 := hB0.kept b2
  replace hR1 := hR1.kept b2
  replace hbw := stepB hbw b2
  clear b2
  by_cases hw : wrB p = true
  · have HW : Hid (wrB p = true) := hw
    have HS : Hid (PtS p) := PtS.of hw
    have hn8 : n ≤ 8 := by rw [HN.out]; exact HS.out.n
    rw [hw]
    clear hw
    have HB : Hid (BlkAt w.heap.size 33 ([] ++ ptC p (.slice ai n ci) (.slice al n cl) ++ []) w2 ∧ PtR w2 p (.slice ai n ci) (.slice al n cl)) := ⟨hB0, hR1⟩
    clear hB0 hR1
    have c4 : w2.cell? ⟨w.heap.size, 4, none⟩ = some (.slice al n cl) := by rw [HB.out.1.cell]; rfl
    have hO0 : OwnG w2 (⟨52, 2, .slice none 0 0, ([] : List ((Int × List (Bool × Int)) × Value)).length, seX []⟩ :: seK 57 []) w2 := (OwnG.start w2).nil 52 2
    go_wp2
    go_loopw [3, 5] (fun ov iv wx => ∃ (i : Nat) (LK : List ((Int × List (Bool × Int)) × Value)), i ≤ n ∧ iv = .int .i64 (i : Int) ∧ Hid (LK.map (·.1) = scS p i) ∧ OwnG w2 (⟨52, 2, ov, LK.length, seX LK⟩ :: seK 57 LK) wx) (fun _ iv _ => n - (intOf iv).toNat)
    case atStart => exact ⟨0, [], by omega, rfl, (by show _ = _; rfl), hO0⟩
    case round =>
      obtain ⟨i, LK, hi, rfl, HI, hO⟩ := hrel
      clear hO0
      have hbx := hO.below
      have f4 := cellK15 c4 hbx
      have c4' : w2.cell? ⟨w.heap.size, 4, none⟩ = some (.slice al n cl) := by rw [HB.out.1.cell]; rfl
      have c3' : w2.cell? ⟨w.heap.size, 3, none⟩ = some (.slice ai n ci) := by rw [HB.out.1.cell]; rfl
      by_cases hlt : i < n
      · have hd : decide ((i : Int) < (n : Int)) = true := decide_eq_true (by omega)
        have hiI : (i : Int) < (n : Int) := by omega
        have HMn : Hid (i < p.n) := by show _ < _; rw [← HN.out]; exact hlt
        obtain ⟨gl, ol, vr, rfl, hcr, hrr⟩ := HB.out.2.row (m := i) HMn.out
        obtain ⟨gi, oi, rfl, hci⟩ := HB.out.2.who (m := i) HMn.out
        obtain ⟨bi, hbi⟩ : ∃ b : Bool, b = p.ini i := ⟨_, rfl⟩
        rw [← hbi] at hci
        have HBi : Hid (bi = p.ini i) := hbi
        have HSl : Hid ((scS p i).length ≤ 96) := by have := scS_len HS.out i (by have := HMn.out; omega); show _ ≤ _; omega
        obtain ⟨ar, cr, rfl, hr2, hr3, -, -⟩ := id hrr
        unfold maxLen at hr3
        obtain ⟨M, hM⟩ : ∃ M : Nat, M = (p.tk i).length := ⟨_, rfl⟩
        rw [← hM] at hcr hr2
        have HM : Hid (M = (p.tk i).length) := hM
        have hM12 : M ≤ 12 := by rw [hM]; exact HS.out.t i HMn.out
        have HRr : Hid (RdI .i64 w2 (.slice ar M cr) (p.tk i)) := by rw [hM]; exact hrr
        have HWd : Hid (∀ j, j < M → 1 ≤ (p.tk i).getD j 0 ∧ (p.tk i).getD j 0 ≤ 10) := by
          show ∀ j, _
          intro j hj
          exact HS.out.x i HMn.out j (by rw [← HM.out]; exact hj)
        have HC4 : Hid _ := c4'
        have HC3 : Hid _ := c3'
        have HCr : Hid _ := hcr
        have HCi : Hid _ := hci
        have fr := cellK15 hcr hbx
        clear hrr hM hbi hcr hci c4' c3' hbx
        rename World => wv
        go_wp2
        go_loopw [3, 6] (fun ov jv wx => ∃ (j : Nat) (LK : List ((Int × List (Bool × Int)) × Value)), j ≤ M ∧ jv = .int .i64 (j : Int) ∧ Hid (LK.map (·.1) = scS p i ++ scR p i j) ∧ OwnG w2 (⟨52, 2, ov, LK.length, seX LK⟩ :: seK 57 LK) wx) (fun _ jv _ => M - (intOf jv).toNat)
        case atStart => exact ⟨0, LK, by omega, rfl, (by show _ = _; rw [HI.out]; simp [scR]), hO⟩
        case round =>
          obtain ⟨j, LK, hj, rfl, HJ, hO3⟩ := hrel
          clear hO f4
          have hby := hO3.below
          have e4 := cellK15 HC4.out hby
          have e3 := cellK15 HC3.out hby
          have er := cellK15 HCr.out hby
          have ei := cellK15 HCi.out hby
          clear hby
          by_cases hltj : j < M
          · have hdj : decide ((j : Int) < (M : Int)) = true := decide_eq_true (by omega)
            have hjI : (j : Int) < (M : Int) := by omega
            obtain ⟨gr, or, c', ev, -, hcj, -⟩ := (HRr.out.kept hO3.below).cellAt (i := j) (by rw [← HM.out]; exact hltj)
            simp only [Value.slice.injEq] at ev
            obtain ⟨rfl, -, rfl⟩ := ev
            have hx := HWd.out j hltj
            obtain ⟨x, hxe⟩ : ∃ x : Int, x = (p.tk i).getD j 0 := ⟨_, rfl⟩
            rw [← hxe] at hcj hx
            have HNx : Hid (scR p i (j + 1) = scR p i j ++ (if scK x (!bi) = [] then [] else [(x, scK x (!bi))])) := by
              show scR p i j ++ _ = _
              rw [hxe, HBi.out]
            have HLl : Hid (LK.length ≤ 110) := by
              have h1 := scR_len p i j
              have h2 := HSl.out
              have h3 : LK.length = (scS p i ++ scR p i j).length := by rw [← HJ.out, List.length_map]
              rw [List.length_append] at h3
              show _ ≤ _
              omega
            have hx10 : x = 1 ∨ x = 2 ∨ x = 3 ∨ x = 4 ∨ x = 5 ∨ x = 6 ∨ x = 7 ∨ x = 8 ∨ x = 9 ∨ x = 10 := by omega
            clear hxe hx
            rcases hx10 with rfl | rfl | rfl | rfl | rfl | rfl | rfl | rfl | rfl | rfl
            · have HJ2 : Hid (LK.map (·.1) = scS p i ++ scR p i (j + 1)) := by show _ = _; rw [HNx.out, HJ.out]; simp [scK]
              go_wp2_with fail
              go_roundw
              case rel => exact ⟨j + 1, LK, by omega, by go_num, HJ2, ((((((((hO3.kept (growB _)).kept (growB _)).kept (growB _)).kept (growB _)).kept (growB _)).kept (growB _)).kept (growB _)).kept (growB _))⟩
              case measure => simp [intOf] <;> omega
            · have HJ2 : Hid (LK.map (·.1) = scS p i ++ scR p i (j + 1)) := by show _ = _; rw [HNx.out, HJ.out]; simp [scK]
              go_wp2_with fail
              go_roundw
              case rel => exact ⟨j + 1, LK, by omega, by go_num, HJ2, ((((((((hO3.kept (growB _)).kept (growB _)).kept (growB _)).kept (growB _)).kept (growB _)).kept (growB _)).kept (growB _)).kept (growB _))⟩
              case measure => simp [intOf] <;> omega
            · have HJ2 : Hid ((LK ++ [(((3 : Int), ([(true, 1), (false, 1)] : List (Bool × Int))), ((.slice (some ⟨wr.heap.size, 0, none⟩) 2 2) : Value))]).map (fun e => e.1) = scS p i ++ scR p i (j + 1)) := by show _ = _; rw [HNx.out, List.map_append, HJ.out]; simp [scK]
              have HXn : Hid _ := seX_next LK 3 [(true, 1), (false, 1)] (.slice (some ⟨wr.heap.size, 0, none⟩) 2 2)
              have HKn : Hid _ := seK_next 57 LK 3 [(true, 1), (false, 1)] (.slice (some ⟨wr.heap.size, 0, none⟩) 2 2)
              go_wp2_with (at_builtin; go_must (refine wpList_append_E rfl _ _ 46 rfl 52 ti _ 2 32 Tryz.underlying46 hti hz0 hz1 hz2 rfl (by decide) _ LK.length (seX LK) rfl (((((((((hO3.lit 57 2 2 (wr.heap.size) (kyC [(true, 1), (false, 1)]) _ rfl rfl (by unfold maxLen; omega) rfl).swap.kept (growB _)).kept (growB _)).kept (growB _)).kept (growB _)).kept (growB _)).kept (growB _)).kept (growB _)).kept (growB _)) ⟨wr.heap.size + 8, 0, none⟩ 1 1 [.int .i64 3, (.slice (some ⟨wr.heap.size, 0, none⟩) 2 2)] rfl rfl (news2 _ _ (by simp)) (by intro u hu; simp at hu; rcases hu with rfl | rfl <;> rfl) (by have := HLl.out; unfold maxLen; omega) (by have := HLl.out; omega) ?_))
              intro v6 w6 hO6 hC6
              have hO7 : OwnG w2 (⟨52, 2, v6, (LK ++ [((3, [(true, 1), (false, 1)]), ((.slice (some ⟨wr.heap.size, 0, none⟩) 2 2) : Value))]).length, seX (LK ++ [((3, [(true, 1), (false, 1)]), (.slice (some ⟨wr.heap.size, 0, none⟩) 2 2))])⟩ :: seK 57 (LK ++ [((3, [(true, 1), (false, 1)]), (.slice (some ⟨wr.heap.size, 0, none⟩) 2 2))])) w6 := by
                rw [← HKn.out, ← HXn.out, List.length_append]
                exact hO6
              clear hO6 hC6 hO3 e4 e3 er ei hcj
              go_wp2
              go_roundw
              case rel => exact ⟨j + 1, _, by omega, by go_num, HJ2, hO7⟩
              case measure => simp [intOf] <;> omega
            · have HJ2 : Hid ((LK ++ [(((4 : Int), ([(true, 1), (false, 2)] : List (Bool × Int))), ((.slice (some ⟨wr.heap.size + 1, 0, none⟩) 2 2) : Value))]).map (fun e => e.1) = scS p i ++ scR p i (j + 1)) := by show _ = _; rw [HNx.out, List.map_append, HJ.out]; simp [scK]
              have HXn : Hid _ := seX_next LK 4 [(true, 1), (false, 2)] (.slice (some ⟨wr.heap.size + 1, 0, none⟩) 2 2)
              have HKn : Hid _ := seK_next 57 LK 4 [(true, 1), (false, 2)] (.slice (some ⟨wr.heap.size + 1, 0, none⟩) 2 2)
              go_wp2_with (at_builtin; go_must (refine wpList_append_E rfl _ _ 46 rfl 52 ti _ 2 32 Tryz.underlying46 hti hz0 hz1 hz2 rfl (by decide) _ LK.length (seX LK) rfl (((((((((hO3.kept (growB _)).lit 57 2 2 (wr.heap.size + 1) (kyC [(true, 1), (false, 2)]) _ rfl (by simp) (by unfold maxLen; omega) rfl).swap.kept (growB _)).kept (growB _)).kept (growB _)).kept (growB _)).kept (growB _)).kept (growB _)).kept (growB _)) ⟨wr.heap.size + 8, 0, none⟩ 1 1 [.int .i64 4, (.slice (some ⟨wr.heap.size + 1, 0, none⟩) 2 2)] rfl rfl (news2 _ _ (by simp)) (by intro u hu; simp at hu; rcases hu with rfl | rfl <;> rfl) (by have := HLl.out; unfold maxLen; omega) (by have := HLl.out; omega) ?_))
              intro v6 w6 hO6 hC6
              have hO7 : OwnG w2 (⟨52, 2, v6, (LK ++ [((4, [(true, 1), (false, 2)]), ((.slice (some ⟨wr.heap.size + 1, 0, none⟩) 2 2) : Value))]).length, seX (LK ++ [((4, [(true, 1), (false, 2)]), (.slice (some ⟨wr.heap.size + 1, 0, none⟩) 2 2))])⟩ :: seK 57 (LK ++ [((4, [(true, 1), (false, 2)]), (.slice (some ⟨wr.heap.size + 1, 0, none⟩) 2 2))])) w6 := by
                rw [← HKn.out, ← HXn.out, List.length_append]
                exact hO6
              clear hO6 hC6 hO3 e4 e3 er ei hcj
              go_wp2
              go_roundw
              case rel => exact ⟨j + 1, _, by omega, by go_num, HJ2, hO7⟩
              case measure => simp [intOf] <;> omega
            · have HJ2 : Hid ((LK ++ [(((5 : Int), ([(true, 2), (false, 1)] : List (Bool × Int))), ((.slice (some ⟨wr.heap.size + 2, 0, none⟩) 2 2) : Value))]).map (fun e => e.1) = scS p i ++ scR p i (j + 1)) := by show _ = _; rw [HNx.out, List.map_append, HJ.out]; simp [scK]
              have HXn : Hid _ := seX_next LK 5 [(true, 2), (false, 1)] (.slice (some ⟨wr.heap.size + 2, 0, none⟩) 2 2)
              have HKn : Hid _ := seK_next 57 LK 5 [(true, 2), (false, 1)] (.slice (some ⟨wr.heap.size + 2, 0, none⟩) 2 2)
              go_wp2_with (at_builtin; go_must (refine wpList_append_E rfl _ _ 46 rfl 52 ti _ 2 32 Tryz.underlying46 hti hz0 hz1 hz2 rfl (by decide) _ LK.length (seX LK) rfl (((((((((hO3.kept (growB _)).kept (growB _)).lit 57 2 2 (wr.heap.size + 2) (kyC [(true, 2), (false, 1)]) _ rfl (by simp) (by unfold maxLen; omega) rfl).swap.kept (growB _)).kept (growB _)).kept (growB _)).kept (growB _)).kept (growB _)).kept (growB _)) ⟨wr.heap.size + 8, 0, none⟩ 1 1 [.int .i64 5, (.slice (some ⟨wr.heap.size + 2, 0, none⟩) 2 2)] rfl rfl (news2 _ _ (by simp)) (by intro u hu; simp at hu; rcases hu with rfl | rfl <;> rfl) (by have := HLl.out; unfold maxLen; omega) (by have := HLl.out; omega) ?_))
              intro v6 w6 hO6 hC6
              have hO7 : OwnG w2 (⟨52, 2, v6, (LK ++ [((5, [(true, 2), (false, 1)]), ((.slice (some ⟨wr.heap.size + 2, 0, none⟩) 2 2) : Value))]).length, seX (LK ++ [((5, [(true, 2), (false, 1)]), (.slice (some ⟨wr.heap.size + 2, 0, none⟩) 2 2))])⟩ :: seK 57 (LK ++ [((5, [(true, 2), (false, 1)]), (.slice (some ⟨wr.heap.size + 2, 0, none⟩) 2 2))])) w6 := by
                rw [← HKn.out, ← HXn.out, List.length_append]
                exact hO6
              clear hO6 hC6 hO3 e4 e3 er ei hcj
              go_wp2
              go_roundw
              case rel => exact ⟨j + 1, _, by omega, by go_num, HJ2, hO7⟩
              case measure => simp [intOf] <;> omega
            · have HJ2 : Hid ((LK ++ [(((6 : Int), ([(true, 2), (false, 2)] : List (Bool × Int))), ((.slice (some ⟨wr.heap.size + 3, 0, none⟩) 2 2) : Value))]).map (fun e => e.1) = scS p i ++ scR p i (j + 1)) := by show _ = _; rw [HNx.out, List.map_append, HJ.out]; simp [scK]
              have HXn : Hid _ := seX_next LK 6 [(true, 2), (false, 2)] (.slice (some ⟨wr.heap.size + 3, 0, none⟩) 2 2)
              have HKn : Hid _ := seK_next 57 LK 6 [(true, 2), (false, 2)] (.slice (some ⟨wr.heap.size + 3, 0, none⟩) 2 2)
              go_wp2_with (at_builtin; go_must (refine wpList_append_E rfl _ _ 46 rfl 52 ti _ 2 32 Tryz.underlying46 hti hz0 hz1 hz2 rfl (by decide) _ LK.length (seX LK) rfl (((((((((hO3.kept (growB _)).kept (growB _)).kept (growB _)).lit 57 2 2 (wr.heap.size + 3) (kyC [(true, 2), (false, 2)]) _ rfl (by simp) (by unfold maxLen; omega) rfl).swap.kept (growB _)).kept (growB _)).kept (growB _)).kept (growB _)).kept (growB _)) ⟨wr.heap.size + 8, 0, none⟩ 1 1 [.int .i64 6, (.slice (some ⟨wr.heap.size + 3, 0, none⟩) 2 2)] rfl rfl (news2 _ _ (by simp)) (by intro u hu; simp at hu; rcases hu with rfl | rfl <;> rfl) (by have := HLl.out; unfold maxLen; omega) (by have := HLl.out; omega) ?_))
              intro v6 w6 hO6 hC6
              have hO7 : OwnG w2 (⟨52, 2, v6, (LK ++ [((6, [(true, 2), (false, 2)]), ((.slice (some ⟨wr.heap.size + 3, 0, none⟩) 2 2) : Value))]).length, seX (LK ++ [((6, [(true, 2), (false, 2)]), (.slice (some ⟨wr.heap.size + 3, 0, none⟩) 2 2))])⟩ :: seK 57 (LK ++ [((6, [(true, 2), (false, 2)]), (.slice (some ⟨wr.heap.size + 3, 0, none⟩) 2 2))])) w6 := by
                rw [← HKn.out, ← HXn.out, List.length_append]
                exact hO6
              clear hO6 hC6 hO3 e4 e3 er ei hcj
              go_wp2
              go_roundw
              case rel => exact ⟨j + 1, _, by omega, by go_num, HJ2, hO7⟩
              case measure => simp [intOf] <;> omega
            · have HJ2 : Hid ((LK ++ [(((7 : Int), ([(false, 7)] : List (Bool × Int))), ((.slice (some ⟨wr.heap.size + 4, 0, none⟩) 1 1) : Value))]).map (fun e => e.1) = scS p i ++ scR p i (j + 1)) := by show _ = _; rw [HNx.out, List.map_append, HJ.out]; simp [scK]
              have HXn : Hid _ := seX_next LK 7 [(false, 7)] (.slice (some ⟨wr.heap.size + 4, 0, none⟩) 1 1)
              have HKn : Hid _ := seK_next 57 LK 7 [(false, 7)] (.slice (some ⟨wr.heap.size + 4, 0, none⟩) 1 1)
              go_wp2_with (at_builtin; go_must (refine wpList_append_E rfl _ _ 46 rfl 52 ti _ 2 32 Tryz.underlying46 hti hz0 hz1 hz2 rfl (by decide) _ LK.length (seX LK) rfl (((((((((hO3.kept (growB _)).kept (growB _)).kept (growB _)).kept (growB _)).lit 57 2 1 (wr.heap.size + 4) (kyC [(false, 7)]) _ rfl (by simp) (by unfold maxLen; omega) rfl).swap.kept (growB _)).kept (growB _)).kept (growB _)).kept (growB _)) ⟨wr.heap.size + 8, 0, none⟩ 1 1 [.int .i64 7, (.slice (some ⟨wr.heap.size + 4, 0, none⟩) 1 1)] rfl rfl (news2 _ _ (by simp)) (by intro u hu; simp at hu; rcases hu with rfl | rfl <;> rfl) (by have := HLl.out; unfold maxLen; omega) (by have := HLl.out; omega) ?_))
              intro v6 w6 hO6 hC6
              have hO7 : OwnG w2 (⟨52, 2, v6, (LK ++ [((7, [(false, 7)]), ((.slice (some ⟨wr.heap.size + 4, 0, none⟩) 1 1) : Value))]).length, seX (LK ++ [((7, [(false, 7)]), (.slice (some ⟨wr.heap.size + 4, 0, none⟩) 1 1))])⟩ :: seK 57 (LK ++ [((7, [(false, 7)]), (.slice (some ⟨wr.heap.size + 4, 0, none⟩) 1 1))])) w6 := by
                rw [← HKn.out, ← HXn.out, List.length_append]
                exact hO6
              clear hO6 hC6 hO3 e4 e3 er ei hcj
              go_wp2
              go_roundw
              case rel => exact ⟨j + 1, _, by omega, by go_num, HJ2, hO7⟩
              case measure => simp [intOf] <;> omega
            · have HJ2 : Hid (LK.map (·.1) = scS p i ++ scR p i (j + 1)) := by show _ = _; rw [HNx.out, HJ.out]; simp [scK]
              go_wp2_with fail
              go_roundw
              case rel => exact ⟨j + 1, LK, by omega, by go_num, HJ2, ((((((((hO3.kept (growB _)).kept (growB _)).kept (growB _)).kept (growB _)).kept (growB _)).kept (growB _)).kept (growB _)).kept (growB _))⟩
              case measure => simp [intOf] <;> omega
            · have HJ2 : Hid ((LK ++ [(((9 : Int), ([(!bi, 8)] : List (Bool × Int))), ((.slice (some ⟨wr.heap.size + 5, 0, none⟩) 1 1) : Value))]).map (fun e => e.1) = scS p i ++ scR p i (j + 1)) := by show _ = _; rw [HNx.out, List.map_append, HJ.out]; simp [scK]
              have HXn : Hid _ := seX_next LK 9 [(!bi, 8)] (.slice (some ⟨wr.heap.size + 5, 0, none⟩) 1 1)
              have HKn : Hid _ := seK_next 57 LK 9 [(!bi, 8)] (.slice (some ⟨wr.heap.size + 5, 0, none⟩) 1 1)
              go_wp2_with (at_builtin; go_must (refine wpList_append_E rfl _ _ 46 rfl 52 ti _ 2 32 Tryz.underlying46 hti hz0 hz1 hz2 rfl (by decide) _ LK.length (seX LK) rfl (((((((((hO3.kept (growB _)).kept (growB _)).kept (growB _)).kept (growB _)).kept (growB _)).lit 57 2 1 (wr.heap.size + 5) (kyC [(!bi, 8)]) _ rfl (by simp) (by unfold maxLen; omega) rfl).swap.kept (growB _)).kept (growB _)).kept (growB _)) ⟨wr.heap.size + 8, 0, none⟩ 1 1 [.int .i64 9, (.slice (some ⟨wr.heap.size + 5, 0, none⟩) 1 1)] rfl rfl (news2 _ _ (by simp)) (by intro u hu; simp at hu; rcases hu with rfl | rfl <;> rfl) (by have := HLl.out; unfold maxLen; omega) (by have := HLl.out; omega) ?_))
              intro v6 w6 hO6 hC6
              have hO7 : OwnG w2 (⟨52, 2, v6, (LK ++ [((9, [(!bi, 8)]), ((.slice (some ⟨wr.heap.size + 5, 0, none⟩) 1 1) : Value))]).length, seX (LK ++ [((9, [(!bi, 8)]), (.slice (some ⟨wr.heap.size + 5, 0, none⟩) 1 1))])⟩ :: seK 57 (LK ++ [((9, [(!bi, 8)]), (.slice (some ⟨wr.heap.size + 5, 0, none⟩) 1 1))])) w6 := by
                rw [← HKn.out, ← HXn.out, List.length_append]
                exact hO6
              clear hO6 hC6 hO3 e4 e3 er ei hcj
              go_wp2
              go_roundw
              case rel => exact ⟨j + 1, _, by omega, by go_num, HJ2, hO7⟩
              case measure => simp [intOf] <;> omega
            · have HJ2 : Hid ((LK ++ [(((10 : Int), ([(!bi, 2)] : List (Bool × Int))), ((.slice (some ⟨wr.heap.size + 6, 0, none⟩) 1 1) : Value))]).map (fun e => e.1) = scS p i ++ scR p i (j + 1)) := by show _ = _; rw [HNx.out, List.map_append, HJ.out]; simp [scK]
              have HXn : Hid _ := seX_next LK 10 [(!bi, 2)] (.slice (some ⟨wr.heap.size + 6, 0, none⟩) 1 1)
              have HKn : Hid _ := seK_next 57 LK 10 [(!bi, 2)] (.slice (some ⟨wr.heap.size + 6, 0, none⟩) 1 1)
              go_wp2_with (at_builtin; go_must (refine wpList_append_E rfl _ _ 46 rfl 52 ti _ 2 32 Tryz.underlying46 hti hz0 hz1 hz2 rfl (by decide) _ LK.length (seX LK) rfl (((((((((hO3.kept (growB _)).kept (growB _)).kept (growB _)).kept (growB _)).kept (growB _)).kept (growB _)).lit 57 2 1 (wr.heap.size + 6) (kyC [(!bi, 2)]) _ rfl (by simp) (by unfold maxLen; omega) rfl).swap.kept (growB _)).kept (growB _)) ⟨wr.heap.size + 8, 0, none⟩ 1 1 [.int .i64 10, (.slice (some ⟨wr.heap.size + 6, 0, none⟩) 1 1)] rfl rfl (news2 _ _ (by simp)) (by intro u hu; simp at hu; rcases hu with rfl | rfl <;> rfl) (by have := HLl.out; unfold maxLen; omega) (by have := HLl.out; omega) ?_))
              intro v6 w6 hO6 hC6
              have hO7 : OwnG w2 (⟨52, 2, v6, (LK ++ [((10, [(!bi, 2)]), ((.slice (some ⟨wr.heap.size + 6, 0, none⟩) 1 1) : Value))]).length, seX (LK ++ [((10, [(!bi, 2)]), (.slice (some ⟨wr.heap.size + 6, 0, none⟩) 1 1))])⟩ :: seK 57 (LK ++ [((10, [(!bi, 2)]), (.slice (some ⟨wr.heap.size + 6, 0, none⟩) 1 1))])) w6 := by
                rw [← HKn.out, ← HXn.out, List.length_append]
                exact hO6
              clear hO6 hC6 hO3 e4 e3 er ei hcj
              go_wp2
              go_roundw
              case rel => exact ⟨j + 1, _, by omega, by go_num, HJ2, hO7⟩
              case measure => simp [intOf] <;> omega
          · have hdj : decide ((j : Int) < (M : Int)) = false := decide_eq_false (by omega)
            have hjI : (M : Int) ≤ (j : Int) := by omega
            have HI2 : Hid (LK.map (·.1) = scS p (i + 1)) := by
              show _ = scS p i ++ scR p i (p.tk i).length
              rw [HJ.out, show j = (p.tk i).length by have := HM.out; omega]
            go_wp2
            go_roundw
            case rel => exact ⟨i + 1, LK, by omega, by go_num, HI2, hO3⟩
            case measure => simp [intOf] <;> omega
      · have hd : decide ((i : Int) < (n : Int)) = false := decide_eq_false (by omega)
        have hiI : (n : Int) ≤ (i : Int) := by omega
        have HO : Hid (LK.map (·.1) = secL p) := by
          show _ = _
          unfold secL
          rw [if_pos HW.out, HI.out, show i = p.n by have := HN.out; omega]
        have hOf := hO.from hbw
        go_wp2
        go_ret
        exact ⟨_, LK, rfl, HO.out, hOf⟩
  · have hf : wrB p = false := by simpa using hw
    have HF : Hid (secL p = []) := by show _ = _; unfold secL; rw [hf]; rfl
    have hOf : OwnG w (⟨52, 2, .slice none 0 0, ([] : List ((Int × List (Bool × Int)) × Value)).length, seX []⟩ :: seK 57 []) w2 := (OwnG.since hbw).nil 52 2
    rw [hf]
    clear hw hf
    go_wp2
    go_ret
    exact ⟨_, [], rfl, by rw [HF.out]; rfl, hOf⟩
end Go.Proofs.YtpoibhhijidobaaGreatDoor
