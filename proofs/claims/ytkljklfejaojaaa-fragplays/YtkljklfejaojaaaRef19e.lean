/- Entries that are too old: contracts of the reference of layer 19, fifth part. -/
import Derived.Test.YtkljklfejaojaaaRef19d
namespace Go.Proofs.Ytkljklfejaojaaa
open Go.ChangeShapes Go.WideShapes Go.ChangeAt Go.RowKit
set_option linter.unusedSimpArgs false
set_option linter.unusedVariables false

theorem below_drewN19 {B : Nat} {w wr : World} (h : Below B w wr) : ∀ n, Below B w (wr.drewN n)
  | 0 => h
  | n + 1 => (below_drewN19 h n).drew
set_option maxRecDepth 100000 in
set_option maxHeartbeats 4000000 in
theorem expire19_any (B : Bf) (now : Nat) (hnow : now < 18446744073709551616) (hs : EnS B.l) (hl : B.l.length ≤ 1000) (A : Array Value) (v : Value) (hA : A = (bfD B v).toArray) (w : World) (hr : EnR w v B.l) :
    Calls Try.prog 14 #[.agg A, .int .u64 (now : Int)] w fun r w' => ∃ v', r = .returned (.agg (bfD ⟨B.pm, B.am, B.age, exL B.age now B.l⟩ v').toArray) ∧ EnR w' v' (exL B.age now B.l) ∧ Below w.heap.size w w' := by
  subst hA
  obtain ⟨a, c, rfl, h2, h3⟩ := hr.len
  unfold maxLen at h3
  obtain ⟨l, hll⟩ : ∃ l, l = B.l := ⟨_, rfl⟩
  rw [← hll] at hl h2 hr hs ⊢
  have HS : Hid (EnS l) := hs
  have HNow : Hid (now < 18446744073709551616) := hnow
  obtain ⟨n, hn⟩ : ∃ n : Nat, n = l.length := ⟨_, rfl⟩
  rw [← hn] at hl h2 hr ⊢
  have HN : Hid (n = l.length) := hn
  have HR : Hid (EnR w (.slice a n c) l) := hr
  clear hr hn hll hs hnow
  go_enter Try.func14, Try.ntmps14
  go_wp2_with (refine wpList_box_blk rfl 40 _ rfl (bfD B (.slice a n c)) (by rfl) ?_)
  intro w1 r1 b1 s1
  obtain ⟨g1, hg1⟩ : ∃ g : Nat, g = w.heap.size := ⟨_, rfl⟩
  rw [← hg1] at r1 ⊢
  have HG1 : Hid (w.heap.size ≤ g1 ∧ g1 < w1.heap.size) := ⟨by omega, r1.lt⟩
  have HB1 : Hid (Below w.heap.size w w1) := b1
  clear b1 s1 hg1
  go_wp2_with (refine wpList_alloc_blk rfl 40 rfl zbD (alloc_bf _) ?_)
  intro w2 r2 b2 s2
  obtain ⟨g2, hg2⟩ : ∃ g : Nat, g = w1.heap.size := ⟨_, rfl⟩
  rw [← hg2] at r2 ⊢
  have HG2 : Hid (w.heap.size ≤ g1 ∧ w.heap.size ≤ g2 ∧ g1 < g2 ∧ g2 < w2.heap.size) := ⟨HG1.out.1, by have := HB1.out.size; omega, by have := HG1.out.2; omega, r2.lt⟩
  have HR1 : Hid (BlkAt g1 40 _ w2) := r1.kept b2
  have HR2 : Hid (BlkAt g2 40 _ w2) := r2
  have HB2 : Hid (Below w.heap.size w w2) := stepB HB1.out b2
  clear b2 s2 hg2 HG1 r1 r2
  go_wp2
  go_loopw [5, 6] (fun xv iv wx => ∃ i : Nat, i ≤ n ∧ iv = .int .i64 (i : Int) ∧ ∃ vs, Hid (OwE w w2 xv ((l.take i).filter (yoE B.age now)) vs wx)) (fun _ iv _ => n - (intOf iv).toNat)
  case atStart => exact ⟨0, by omega, rfl, [], by show OwE _ _ _ _ _ _; simpa using OwE.start HB2.out⟩
  case round =>
    obtain ⟨i, hi, rfl, vs, HO⟩ := hrel
    have hbx := HO.out.own.below
    have c3 : wr.cell? ⟨g1, 3, none⟩ = some (.slice a n c) := (HR1.out.kept hbx).cell 3
    have c2 : wr.cell? ⟨g1, 2, none⟩ = some (.int .u64 (B.age : Int)) := (HR1.out.kept hbx).cell 2
    by_cases hlt : i < n
    · have hd : decide ((i : Int) < (n : Int)) = true := decide_eq_true (by omega)
      have hiI : (i : Int) < (n : Int) := by omega
      have hil : i < l.length := by rw [← HN.out]; exact hlt
      obtain ⟨b, off, a', c', rfl, q0, q1, q2, q3, hp⟩ := HR.out.at hil
      have hbw := HB2.out.trans (hbx.mono HB2.out.size)
      have hf := filter_take (yoE B.age now) noE l i hil
      obtain ⟨y, hy⟩ : ∃ y, y = l.getD i noE := ⟨_, rfl⟩
      rw [← hy] at q0 q1 q2 q3 hp hf
      obtain ⟨M, hM⟩ : ∃ M, M = y.parts.length := ⟨_, rfl⟩
      rw [← hM] at q3 hp
      replace q0 := cell_keptB hbw q0
      have hrg := range_four q0 (cell_keptB hbw q1) (cell_keptB hbw q2) (cell_keptB hbw q3)
      have hby := (HS.out.at hil).b
      rw [← hy] at hby
      have q2' := cell_keptB hbw q2
      obtain ⟨bo, hbo⟩ : ∃ b : Nat, b = y.born := ⟨_, rfl⟩
      obtain ⟨ag, hag⟩ : ∃ b : Nat, b = B.age := ⟨_, rfl⟩
      have hnow := HNow.out
      have HLF : Hid (yoE B.age now y = (decide (now ≤ bo) || decide (now - bo ≤ ag))) := by show _ = _; rw [hbo, hag]; rfl
      rw [← hbo] at q2' hby
      rw [← hag] at c2
      have HLn : Hid (((l.take i).filter (yoE B.age now)).length + [y].length ≤ 2000) := by
        have := List.length_filter_le (yoE B.age now) (l.take i)
        rw [List.length_take] at this
        show _ ≤ _
        simp only [List.length_cons, List.length_nil]
        omega
      obtain ⟨D, hD⟩ : ∃ D : Nat, D = now - bo := ⟨_, rfl⟩
      have hways : (yoE B.age now y = true ∧ decide (now ≤ bo) = true) ∨ (decide (now ≤ bo) = false ∧ IntKind.u64.wrap ((now : Int) - (bo : Int)) = (D : Int) ∧ ((yoE B.age now y = true ∧ decide (D ≤ ag) = true) ∨ (yoE B.age now y = false ∧ decide (D ≤ ag) = false))) := by
        have h := HLF.out
        by_cases h1 : now ≤ bo
        · left
          rw [decide_eq_true h1, Bool.true_or] at h
          exact ⟨h, decide_eq_true h1⟩
        · right
          rw [decide_eq_false h1, Bool.false_or, ← hD] at h
          refine ⟨decide_eq_false h1, by rw [IntKind.wrap_u64]; omega, ?_⟩
          by_cases h2 : D ≤ ag
          · rw [decide_eq_true h2] at h
            exact .inl ⟨h, decide_eq_true h2⟩
          · rw [decide_eq_false h2] at h
            exact .inr ⟨h, decide_eq_false h2⟩
      have HF : Hid _ := hf
      have HP0 : Hid (RdC w (.slice a' M c') (y.parts.map sv)) := hp
      have HRG : Hid (wr.rangeAt b (off + i * 4) (enD y (.slice a' M c'))) := hrg
      clear hf hp hrg q0 q1 q2 q3 hM hbw hby hbo hag hD HLF hy hil hnow
      rcases hways with ⟨hyo, hd1⟩ | ⟨hd1, hwr, ⟨hyo, hd2⟩ | ⟨hyo, hd2⟩⟩
      · have HF2 : Hid ((l.take (i + 1)).filter (yoE B.age now) = (l.take i).filter (yoE B.age now) ++ [y]) := by have := HF.out; rwa [hyo, if_pos rfl] at this
        clear hyo
        go_wp2_with fail
        go_quiet (fail)
        have bq := below_drewN19 (Below.refl wr.heap.size wr) nq
        have HOq : Hid _ := HO.out.kept bq
        have HRGq : Hid (World.rangeAt (wr.drewN nq) b (off + i * 4) (enD y (.slice a' M c'))) := HRG.out
        have c3q := cell_keptB bq c3
        clear HO HRG bq c3
        generalize wr.drewN nq = wq at HOq HRGq c3q ⊢
        go_wp2_with (first
          | refine wpList_load_mid rfl 71 _ rfl b (off + i * 4) rfl (enD y (.slice a' M c')) _ HRGq.out Try.underlying71 rfl (infoEnt _ _) ?_
          | refine wpList_build18 rfl 38 _ rfl (.agg (enD y (.slice a' M c')).toArray) rfl 71 (enD y (.slice a' M c')) (slice_en _ _ _ _ _) ?_)
        intro wz rz bz
        go_wp2_with (at_builtin; go_must (refine wpList_append_ens rfl _ _ rfl _ _ vs rfl (HOq.out.kept bz) _ [y] [.slice a' M c'] rfl (EnV.one rz) (PaV.one1 HP0.out) HLn.out ?_))
        intro v3 w3 hO3
        have HO3 : Hid (OwE w w2 v3 ((l.take (i + 1)).filter (yoE B.age now)) (vs ++ [.slice a' M c']) w3) := by show OwE _ _ _ _ _ _; rw [HF2.out]; exact hO3
        clear hO3 rz bz
        go_wp2
        go_roundw
        case rel => exact ⟨i + 1, by omega, by go_num, _, HO3⟩
        case measure => simp [intOf] <;> omega
      · have HF2 : Hid ((l.take (i + 1)).filter (yoE B.age now) = (l.take i).filter (yoE B.age now) ++ [y]) := by have := HF.out; rwa [hyo, if_pos rfl] at this
        clear hyo
        go_wp2_with fail
        go_quiet (fail)
        have bq := below_drewN19 (Below.refl wr.heap.size wr) nq
        have HOq : Hid _ := HO.out.kept bq
        have HRGq : Hid (World.rangeAt (wr.drewN nq) b (off + i * 4) (enD y (.slice a' M c'))) := HRG.out
        have c3q := cell_keptB bq c3
        clear HO HRG bq c3
        generalize wr.drewN nq = wq at HOq HRGq c3q ⊢
        go_wp2_with (first
          | refine wpList_load_mid rfl 71 _ rfl b (off + i * 4) rfl (enD y (.slice a' M c')) _ HRGq.out Try.underlying71 rfl (infoEnt _ _) ?_
          | refine wpList_build18 rfl 38 _ rfl (.agg (enD y (.slice a' M c')).toArray) rfl 71 (enD y (.slice a' M c')) (slice_en _ _ _ _ _) ?_)
        intro wz rz bz
        go_wp2_with (at_builtin; go_must (refine wpList_append_ens rfl _ _ rfl _ _ vs rfl (HOq.out.kept bz) _ [y] [.slice a' M c'] rfl (EnV.one rz) (PaV.one1 HP0.out) HLn.out ?_))
        intro v3 w3 hO3
        have HO3 : Hid (OwE w w2 v3 ((l.take (i + 1)).filter (yoE B.age now)) (vs ++ [.slice a' M c']) w3) := by show OwE _ _ _ _ _ _; rw [HF2.out]; exact hO3
        clear hO3 rz bz
        go_wp2
        go_roundw
        case rel => exact ⟨i + 1, by omega, by go_num, _, HO3⟩
        case measure => simp [intOf] <;> omega
      · have HO2 : Hid (OwE w w2 u5 ((l.take (i + 1)).filter (yoE B.age now)) vs wr) := by
          show OwE _ _ _ _ _ _
          have := HF.out
          rw [hyo, if_neg (by decide), List.append_nil] at this
          rw [this]
          exact HO.out
        clear hyo hbx
        go_wp2_with fail
        go_quiet (fail)
        have HOq : Hid (OwE w w2 u5 ((l.take (i + 1)).filter (yoE B.age now)) vs (wr.drewN nq)) := HO2.out.kept (below_drewN19 (Below.refl wr.heap.size wr) nq)
        generalize wr.drewN nq = wq at HOq ⊢
        go_wp2
        go_roundw
        case rel => exact ⟨i + 1, by omega, by go_num, vs, HOq⟩
        case measure => simp [intOf] <;> omega
    · have hd : decide ((i : Int) < (n : Int)) = false := decide_eq_false (by omega)
      have HF : Hid (OwE w w2 u5 (exL B.age now l) vs wr) := by
        have := HO.out
        rw [List.take_of_length_le (by rw [← HN.out]; omega)] at this
        exact this
      obtain ⟨a4, k4, rfl, -⟩ := id HF.out.rd.len
      obtain ⟨m, hm⟩ : ∃ m : Nat, m = (exL B.age now l).length := ⟨_, rfl⟩
      rw [← hm] at HF ⊢
      have HPE : Hid (PaV w (exL B.age now l) vs) := HF.out.parts
      have r14 := (HR1.out).kept hbx
      have r24 := (HR2.out).kept hbx
      have f1 : wr.frozen? ⟨g1, 3, none⟩ = false := r14.free 3
      have r15 : BlkAt g1 40 (bfD B (.slice a4 m k4)) (wr.setCell ⟨g1, 3, none⟩ (.slice a4 m k4)) := BlkAt.set r14 3 (.slice a4 m k4)
      have hw5 : Wrote g1 wr (wr.setCell ⟨g1, 3, none⟩ (.slice a4 m k4)) := Wrote.set _ _ _ _
      have r25 := r24.wrote hw5 (by have := HG2.out; omega)
      have HB4 : Hid (Below w.heap.size w wr) := HB2.out.trans (hbx.mono HB2.out.size)
      clear hbx hm
      go_wp2_with (first
        | refine wpList_load_part rfl 40 _ rfl rfl [] (bfD B (.slice a4 m k4)) [] r15 (by simp) rfl Try.underlying40 rfl (infoBf _ _) ?_
        | (refine wpList_store_part rfl 40 _ _ rfl rfl (bfD B (.slice a4 m k4)) rfl [] zbD [] (bfD B (.slice a4 m k4)) r25 rfl rfl rfl rfl (infoBf B (.slice a4 m k4)) (bfD_one _ _ _ _) ?_; intro w6 r6 hw6))
      refine bodyPost_blk rfl rfl rfl r6 Try.underlying40 rfl (infoBf _ _) ?_
      have hb6 : Below w.heap.size w w6 := hw6.below _ _ HG2.out.2.1 (hw5.below _ _ HG2.out.1 HB4.out)
      refine ⟨.slice a4 m k4, rfl, ?_, hb6⟩
      have ho := HF.out.own.rows _ (List.mem_cons_self ..)
      have ho5 := own_chgG ho (Chg.of_wrote hw5) fun g hg e => by have h := (ho.lt g hg).1; have := HG2.out.2.2; rw [e] at h; omega
      have ho6 := own_chgG ho5 (Chg.of_wrote hw6) fun g hg e => by have h := (ho.lt g hg).1; have := HG2.out.2.2; rw [e] at h; omega
      exact EnR.of ⟨HF.out.len, RdE.of_own ho6⟩ (HPE.out.kept hb6)
end Go.Proofs.Ytkljklfejaojaaa
