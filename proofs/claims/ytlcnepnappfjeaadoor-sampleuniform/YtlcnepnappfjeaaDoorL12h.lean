/- What awake asks of package sample holds. -/
import Derived.Test.YtlcnepnappfjeaaDoorL12g
import Derived.Test.YtlcnepnappfjeaaDoorL12d
import Derived.Test.YtlcnepnappfjeaaDoorL12e
import Derived.Test.YtlcnepnappfjeaaDoorEvs
import Derived.Test.YtlcnepnappfjeaaDoorPoO
namespace Go.Proofs.YtlcnepnappfjeaaDoor
open Go.ChangeShapes Go.WideShapes Go.ChangeAt Go.RowKit
set_option linter.unusedSimpArgs false
set_option linter.unusedVariables false

/-- A row of noughts, so many of which are a byte by now. -/
def flR (n : Nat) (c : UInt8) (i : Nat) : List UInt8 := (List.range n).map fun k => if k < i then c else 0
theorem flR_length (n : Nat) (c : UInt8) (i : Nat) : (flR n c i).length = n := by simp [flR]
theorem flR_zero (n : Nat) (c : UInt8) : flR n c 0 = List.replicate n 0 := by
  refine List.ext_getElem (by simp [flR]) fun k h1 h2 => ?_
  simp [flR]
theorem flR_full (n : Nat) (c : UInt8) : flR n c n = List.replicate n c := by
  refine List.ext_getElem (by simp [flR]) fun k h1 h2 => ?_
  have hk : k < n := by simpa [flR] using h1
  simp [flR, hk]
theorem flR_set (n : Nat) (c : UInt8) (i : Nat) : (flR n c i).set i c = flR n c (i + 1) := by
  refine List.ext_getElem (by simp [flR]) fun k h1 h2 => ?_
  simp only [flR, List.getElem_set, List.getElem_map, List.getElem_range]
  by_cases h : i = k
  · rw [if_pos h, if_pos (by omega)]
  · rw [if_neg h]
    by_cases h2 : k < i
    · rw [if_pos h2, if_pos (by omega)]
    · rw [if_neg h2, if_neg (by omega)]
theorem wpList_valG {P : Program} {ops : Array Oper} {rest : List Oper} {op : Oper} {a : Act} {w : World} {Q : Exit → Act → World → Prop} {v : Value} (hy : (execOp a.eval op).run P w = .ok (.value v) w) (hw : Region.wanted op (yielded ops a.tmps) = true)
    (h : wpList P ops Q rest (a.put op.dst v) w) : wpList P ops Q (op :: rest) a w := by
  refine wpList_step fun K hK => ?_
  rw [if_pos hw]
  unfold Oper.wp
  rw [hy]
  exact hK _ _ h
theorem exec_indexS {P : Program} {W : World} {op : Oper} {a : Act} (t : TypeId) (x i : Operand) (ho : op.op = .index t x i) (vx vi v : Value) (hx : a.eval x = vx) (hi : a.eval i = vi) (hrun : (Instr.index t vx vi).run P W = .ok v W) : (execOp a.eval op).run P W = .ok (.value v) W := by
  unfold execOp
  simp only [ho, hx, hi, Sem.run_bind, hrun, Result.andThen_ok, Sem.run_pure]
theorem index_poS (F : Nat → Int) (w : World) : (Instr.index 25 (.agg ((gI F).map (Value.int .i64)).toArray) (.int .i64 0)).run Tryd.prog w = .ok (.int .i64 (F 0)) w := by kernel_rfl
theorem build_poI (w : World) : (Instr.build 24 #[]).run Tryd.prog w = .ok (poV fun _ => 0) w := by kernel_rfl
def oneI (x : Int) (k : Nat) : Int := if k = 0 then x else 0
theorem oneI_po (x : Int) (h : In64 x) : Po (oneI x) := ⟨fun k => by unfold oneI; split; exact h; exact ⟨by decide, by decide⟩⟩
theorem build_po1 (x : Int) (w : World) : (Instr.build 24 #[(0, .int .i64 x)]).run Tryd.prog w = .ok (.agg ((gI (oneI x)).map (Value.int .i64)).toArray) w := by kernel_rfl
theorem cell_fzS {e : TypeId} {g : Nat} {f : Nat → FZ} {w : World} (r : RowAt .i64 e g 256 (gI (fzF f)) w) (k : Nat) (hk : k < 256) (v : Int) (hv : (((f k).val : Nat) : Int) = v) : w.cell? ⟨g, k, none⟩ = some (.int .i64 v) := by
  have h := r.cell (j := k) (by rw [gI_length]; exact hk)
  rw [gI_get _ hk] at h
  unfold fzF at h
  rw [hv] at h
  exact h
theorem ne_poS {f : Nat → FZ} (h : (f 0).val ≠ 0) (w : World) : (Op.equalIn 10000 25 (poV f) (poV fun _ => 0)).run Tryd.prog w = .ok false w := by
  have h1 := run_equal_row w (k := .i64) 9998 Tryd.underlying25 Tryd.underlying3 cellsInt11 (gI (fzF f)) (gI (fzF fun _ => 0)) (gI_length _) (gI_length _)
  have h2 : ¬ gI (fzF f) = gI (fzF fun _ => 0) := fun e => by
    have := fz_inj e (k := 0) (by decide)
    rw [this] at h
    exact h rfl
  rw [decide_eq_false h2] at h1
  exact h1
theorem eq_poS {f g : Nat → FZ} (h : ∀ k, k < 256 → f k = g k) (w : World) : (Op.equalIn 10000 25 (poV f) (poV g)).run Tryd.prog w = .ok true w := by
  have h1 := run_equal_row w (k := .i64) 9998 Tryd.underlying25 Tryd.underlying3 cellsInt11 (gI (fzF f)) (gI (fzF g)) (gI_length _) (gI_length _)
  rw [h1, fz_congr h]
  simp
theorem wake_ns : (nsF 2 (List.replicate 128 3) 0).val = 2 ∧ (nsF 2 (List.replicate 128 3) 1).val = 0 := by decide +kernel
theorem wake_up : (upF 1 ((List.replicate 128 3).take 32) 0).val = 1 ∧ (upF 1 ((List.replicate 128 3).take 32) 1).val = 1 ∧ (upF 1 ((List.replicate 128 3).take 32) 2).val = 0 := by decide +kernel
theorem wake_cp : cpA 1 (oneI 1665 0) = 1 := by decide +kernel
theorem wake_dc : dcA 1 (oneI 1 0) = 1665 := by decide +kernel

theorem eq_gIS {F G : Nat → Int} (h : gI F = gI G) (w : World) : (Op.equalIn 10000 25 (.agg ((gI F).map (Value.int .i64)).toArray) (.agg ((gI G).map (Value.int .i64)).toArray)).run Tryd.prog w = .ok true w := by
  have h1 := run_equal_row w (k := .i64) 9998 Tryd.underlying25 Tryd.underlying3 cellsInt11 (gI F) (gI G) (gI_length _) (gI_length _)
  rw [h1, h]
  simp
theorem ne_zeroS {f : Nat → FZ} (h : (f 0).val ≠ 0) (w : World) : (Op.equalIn 10000 25 (.agg ((gI (fzF f)).map (Value.int .i64)).toArray) (poV fun _ => 0)).run Tryd.prog w = .ok false w := ne_poS h w
theorem eq_zeroS {f : Nat → FZ} (h : ∀ k, k < 256 → f k = 0) (w : World) : (Op.equalIn 10000 25 (.agg ((gI (fzF f)).map (Value.int .i64)).toArray) (poV fun _ => 0)).run Tryd.prog w = .ok true w := eq_poS (g := fun _ => 0) h w
theorem suniform_nil (w : World) (hT : Tabs w) : Calls Tryd.prog 10 #[.slice none 0 0] w fun e w' => ∃ U : Nat → FZ, (U 0).val = 3199 ∧ e = .returned (poV U) ∧ Below w.heap.size w w' := by
  refine (suniform_any _ [] w (Rd.nil w) hT).mono ?_
  rintro e w' ⟨h1, h2⟩
  exact ⟨_, un_none, h1, h2⟩
theorem sprf_nil (w : World) (hT : Tabs w) : Calls Tryd.prog 14 #[.int .i64 2, .slice none 0 0, .int .u8 1] w fun e w' => ∃ X : Nat → FZ, (X 0).val = 3328 ∧ e = .returned (.tuple #[poV X, .int .i64 0]) ∧ Below w.heap.size w w' := by
  refine (sprf_any 2 2 rfl (by omega) (by omega) _ [] 1 1 rfl (by simp) w (Rd.nil w) hT).mono ?_
  rintro e w' ⟨h1, h2⟩
  exact ⟨_, ns_one, h1, h2⟩

set_option maxRecDepth 100000 in
set_option maxHeartbeats 8000000 in
theorem awake_any (w : World) (hT : Tabs w) : Calls Tryd.prog 9 #[] w fun e w' => e = .returned (.bool true) ∧ Below w.heap.size w w' := by
  obtain ⟨ti, hti, hz0, hz1, hz2⟩ := info_parts infoS5
  have HT : Hid (Tabs w) := hT
  clear hT
  go_enter Tryd.func9, Tryd.ntmps9
  go_wp2_with (at_make; go_must (refine wpList_make_full _ rfl _ _ 22 rfl w.heap.size 5 ti _ 1 Tryd.underlying22 hti hz0 hz1 _ _ _ _ 128 rfl rfl rfl rfl (by rw [hz2]; omega) (by unfold maxLen; omega) (Nat.le_refl _) ?_))
  intro w1 hown hgr
  have hN0 := New.made hown hgr
  rw [← flR_zero 128 3] at hN0
  clear hown hgr
  go_wp2
  go_loopw [2] (fun iv wx => ∃ i : Nat, i ≤ 128 ∧ iv = .int .i64 (i : Int) ∧ New 5 w (.slice (some ⟨w.heap.size, 0, none⟩) 128 128) (flR 128 3 i) wx) (fun iv _ => 128 - (intOf iv).toNat)
  case atStart => exact ⟨0, by omega, rfl, hN0⟩
  case round =>
    obtain ⟨i, hi, rfl, hN⟩ := hrel
    clear hN0
    by_cases hlt : i < 128
    · have hd : decide ((i : Int) < 128) = true := decide_eq_true (by omega)
      have hiI : (i : Int) < 128 := by omega
      obtain ⟨g', c', ev, -, hcell, hfree, hset⟩ := hN.store (j := i) (by rw [flR_length]; exact hlt)
      simp only [Value.slice.injEq, Option.some.injEq, Addr.mk.injEq, and_true, true_and] at ev
      obtain ⟨rfl, -, rfl⟩ := ev
      have hN2 := hset 3
      rw [flR_set] at hN2
      have HN2 : Hid (New 5 w (.slice (some ⟨w.heap.size, 0, none⟩) 128 128) (flR 128 3 (i + 1)) (wr.setCell ⟨w.heap.size, i, none⟩ (.int .u8 3))) := hN2
      clear hN hset hN2
      go_wp2
      go_roundw
      case rel => exact ⟨i + 1, by omega, by go_num, HN2.out⟩
      case measure => simp [intOf] <;> omega
    · have hie : i = 128 := by omega
      have hd : decide ((i : Int) < 128) = false := decide_eq_false (by omega)
      have hiI : (128 : Int) ≤ (i : Int) := by omega
      rw [hie, flR_full] at hN
      clear hie
      have hb := hN.rd
      have hbw := hN.2
      have HL : Hid ((List.replicate 128 (3 : UInt8)).length = 128) := by show _ = _; simp
      have HW := wake_ns
      have HU := wake_up
      generalize List.replicate 128 (3 : UInt8) = B at hb HL HW HU
      clear hN
      rename World => x0
      go_wp2_with fail
      refine (snoise_any 2 _ rfl (by omega) (by omega) _ B _ hb HL.out).mono ?_
      rintro e d1 ⟨rfl, bn⟩
      have hb0 := bn
      go_wp2_with (refine wpList_alloc_row (k := .i64) rfl 25 rfl (gI fun _ => 0) (alloc_poS _) (gI_ne _) (poMax _) ?_)
      intro e1 ro bo so
      rw [gI_length] at ro
      replace hb0 := stepB hb0 bo
      clear so bo
      go_wp2_with (refine wpList_store_row rfl 25 _ _ rfl (gI (fzF (nsF 2 B))) rfl rfl ro (by rw [gI_length, gI_length]) (poInfoS _) ?_)
      intro g1 rp hw
      replace hb0 := hw.below _ _ bn.size hb0
      replace hb := hb.kept hb0
      replace hbw := stepB hbw hb0
      clear hb0 hw bn ro
      go_wp2_with fail
      refine (sunpack_any 1 _ rfl (by omega) (by omega) _ (B.take 32) _ (hb.take (n := 32) (by omega)) (by rw [List.length_take, HL.out]; rfl)).mono ?_
      rintro e d2 ⟨rfl, bn⟩
      have hb0 := bn
      go_wp2_with (refine wpList_alloc_row (k := .i64) rfl 25 rfl (gI fun _ => 0) (alloc_poS _) (gI_ne _) (poMax _) ?_)
      intro e2 ro bo so
      rw [gI_length] at ro
      replace hb0 := stepB hb0 bo
      clear so bo
      go_wp2_with (refine wpList_store_row rfl 25 _ _ rfl (gI (fzF (upF 1 (B.take 32)))) rfl rfl ro (by rw [gI_length, gI_length]) (poInfoS _) ?_)
      intro g2 rq hw
      replace hb0 := hw.below _ _ bn.size hb0
      replace rp := rp.kept hb0
      replace hb := hb.kept hb0
      replace hbw := stepB hbw hb0
      clear hb0 hw bn ro
      go_wp2_with fail
      refine (sunpack_arg 13 _ B _ hb (by omega)).mono ?_
      rintro e d3 ⟨rfl, bn⟩
      have hb0 := bn
      go_wp2_with (refine wpList_alloc_row (k := .i64) rfl 25 rfl (gI fun _ => 0) (alloc_poS _) (gI_ne _) (poMax _) ?_)
      intro e3 ro bo so
      rw [gI_length] at ro
      replace hb0 := stepB hb0 bo
      clear so bo
      go_wp2_with (refine wpList_store_row rfl 25 _ _ rfl (gI (fzF (fun _ => 0))) rfl rfl ro (by rw [gI_length, gI_length]) (poInfoS _) ?_)
      intro g3 rn hw
      replace hb0 := hw.below _ _ bn.size hb0
      replace rp := rp.kept hb0
      replace rq := rq.kept hb0
      replace hb := hb.kept hb0
      replace hbw := stepB hbw hb0
      clear hb0 hw bn ro
      go_wp2_with fail
      refine (suniform_nil _ (HT.out.kept hbw)).mono ?_
      rintro e d4 ⟨U, hu0, rfl, bn⟩
      have hb0 := bn
      go_wp2_with (refine wpList_alloc_row (k := .i64) rfl 25 rfl (gI fun _ => 0) (alloc_poS _) (gI_ne _) (poMax _) ?_)
      intro e4 ro bo so
      rw [gI_length] at ro
      replace hb0 := stepB hb0 bo
      clear so bo
      go_wp2_with (refine wpList_store_row rfl 25 _ _ rfl (gI (fzF U)) rfl rfl ro (by rw [gI_length, gI_length]) (poInfoS _) ?_)
      intro g4 ru hw
      replace hb0 := hw.below _ _ bn.size hb0
      replace rp := rp.kept hb0
      replace rq := rq.kept hb0
      replace rn := rn.kept hb0
      replace hb := hb.kept hb0
      replace hbw := stepB hbw hb0
      clear hb0 hw bn ro
      go_wp2_with fail
      refine (sprf_nil _ (HT.out.kept hbw)).mono ?_
      rintro e d5 ⟨X, hx0, rfl, bn⟩
      have hb0 := bn
      go_wp2_with (refine wpList_alloc_row (k := .i64) rfl 25 rfl (gI fun _ => 0) (alloc_poS _) (gI_ne _) (poMax _) ?_)
      intro e5 ro bo so
      rw [gI_length] at ro
      replace hb0 := stepB hb0 bo
      clear so bo
      go_wp2_with (refine wpList_store_row rfl 25 _ _ rfl (gI (fzF X)) rfl rfl ro (by rw [gI_length, gI_length]) (poInfoS _) ?_)
      intro g5 rx hw
      replace hb0 := hw.below _ _ bn.size hb0
      replace rp := rp.kept hb0
      replace rq := rq.kept hb0
      replace rn := rn.kept hb0
      replace ru := ru.kept hb0
      replace hb := hb.kept hb0
      replace hbw := stepB hbw hb0
      clear hb0 hw bn ro
      have k1 := cell_fzS rp 0 (by decide) 2 (by rw [HW.1]; rfl)
      have k2 := cell_fzS rp 1 (by decide) 0 (by rw [HW.2]; rfl)
      have k3 := cell_fzS rq 0 (by decide) 1 (by rw [HU.1]; rfl)
      have k4 := cell_fzS rq 1 (by decide) 1 (by rw [HU.2.1]; rfl)
      have k5 := cell_fzS rq 2 (by decide) 0 (by rw [HU.2.2]; rfl)
      have HW : Hid _ := HW
      have HU : Hid _ := HU
      have hu0 : Hid _ := hu0
      have hx0 : Hid _ := hx0
      have Q1 : Hid (∀ w, _) := ne_zeroS (f := U) (by rw [hu0.out]; decide)
      have Q2 : Hid (∀ w, _) := ne_zeroS (f := X) (by rw [hx0.out]; decide)
      clear rq rn hb
      go_wp2_with (refine wpList_valG (exec_load_row' 25 (.tmp 3) rfl rfl rp (Below.refl _ _) _ Tryd.underlying25 rfl (poInfoS _)) (by go_simp; done) ?_)
      refine (spack_any 4 _ rfl (by omega) (by omega) _ (fzF (nsF 2 B)) (Po.fz _) rfl _).mono ?_
      rintro e y1 ⟨v1, rfl, hN1⟩
      replace rp := rp.kept hN1.2
      replace ru := ru.kept hN1.2
      replace rx := rx.kept hN1.2
      replace hbw := stepB hbw hN1.2
      obtain ⟨a1, c1, rfl, -⟩ := id hN1.rd
      rw [pkL_length]
      clear hN1 k1 k2 k3 k4 k5 rp
      have q1 := Q1.out
      have q2 := Q2.out
      go_wp2_with (first
        | refine wpList_valG (exec_load_row' 25 (.tmp 9) rfl rfl ru (Below.refl _ _) _ Tryd.underlying25 rfl (poInfoS _)) (by go_simp; done) ?_
        | refine wpList_valG (exec_load_row' 25 (.tmp 10) rfl rfl rx (Below.refl _ _) _ Tryd.underlying25 rfl (poInfoS _)) (by go_simp; done) ?_
        | refine wpList_valG (exec_build 24 #[] rfl #[] (by simp) _ (build_poI _)) (by go_simp; done) ?_
        | refine wpList_valG (exec_build 24 #[(0, .const (.int .i64 1665))] rfl #[(0, .int .i64 1665)] (by simp [Act.eval]) _ (build_po1 1665 _)) (by go_simp; done) ?_)
      refine (ssqueeze_any 1 _ (oneI 1665) (oneI_po _ ⟨by decide, by decide⟩) rfl _).mono ?_
      rintro e y2 ⟨rfl, b2⟩
      replace hbw := stepB hbw b2
      clear b2 ru rx q1 q2
      have i1 : ∀ w, (Instr.index 25 (.agg ((gI fun k => ((cpA 1 (oneI 1665 k) : Nat) : Int)).map (Value.int .i64)).toArray) (.int .i64 0)).run Tryd.prog w = .ok (.int .i64 1) w := fun w => by rw [index_poS, wake_cp]; rfl
      go_wp2_with (refine wpList_valG (exec_build 24 #[(0, .const (.int .i64 1))] rfl #[(0, .int .i64 1)] (by simp [Act.eval]) _ (build_po1 1 _)) (by go_simp; done) ?_)
      refine (sspread_any 1 _ (oneI 1) (oneI_po _ ⟨by decide, by decide⟩) rfl _).mono ?_
      rintro e y3 ⟨rfl, b3⟩
      replace hbw := stepB hbw b3
      clear b3
      have i2 : ∀ w, (Instr.index 25 (.agg ((gI fun k => ((dcA 1 (oneI 1 k) : Nat) : Int)).map (Value.int .i64)).toArray) (.int .i64 0)).run Tryd.prog w = .ok (.int .i64 1665) w := fun w => by rw [index_poS, wake_dc]; rfl
      go_wp2
      go_ret
      exact ⟨rfl, hbw⟩
end Go.Proofs.YtlcnepnappfjeaaDoor
