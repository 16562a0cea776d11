/- What a state is after all its turns: a contract of package chacha, third part. -/
import Derived.Test.YtliiofjcghdjoaaDoorC07b
import Derived.BigQuiet
namespace Go.Proofs.YtliiofjcghdjoaaDoor
open Go.ChangeShapes Go.WideShapes Go.ChangeAt Go.RowKit
set_option linter.unusedSimpArgs false
set_option linter.unusedVariables false

/-- The places of the words that go into each quarter round. -/
def plL : List Nat := [0, 4, 8, 12, 1, 5, 9, 13, 2, 6, 10, 14, 3, 7, 11, 15, 0, 5, 10, 15, 1, 6, 11, 12, 2, 7, 8, 13, 3, 4, 9, 14]
/-- The table lies where the program laid it. -/
def PlT (w : World) : Prop := ∀ i, i < 32 → w.cell? ⟨0, i, none⟩ = some (.int .i64 ((plL.getD i 0 : Nat) : Int))
theorem PlT.kept {w w' : World} (h : PlT w) (hb : Below w.heap.size w w') : PlT w' := fun i hi => by
  rw [hb.cell (p := ⟨0, i, none⟩) (World.block_lt_of_cell? w _ (h i hi))]
  exact h i hi
/-- So many quarter rounds of the table. -/
def qEi (v : List Nat) : Nat → List Nat
  | 0 => v
  | k + 1 => qAt (qEi v k) (plL.getD (k * 4) 0) (plL.getD (k * 4 + 1) 0) (plL.getD (k * 4 + 2) 0) (plL.getD (k * 4 + 3) 0)
theorem qEi_ok {v : List Nat} (h : W16 v) : ∀ k, W16 (qEi v k)
  | 0 => h
  | k + 1 => qAt_ok (qEi_ok h k) _ _ _ _
theorem qEi_eight (v : List Nat) : qEi v 8 = qDia (qCol v 4) 4 := rfl
theorem pl_lt : ∀ i, i < 32 → plL.getD i 0 < 16 := by decide

set_option maxRecDepth 100000 in
set_option maxHeartbeats 4000000 in
theorem mixed_any (A : Array Value) (l : List Nat) (hl : W16 l) (hA : A = ((nI l).map (Value.int .u32)).toArray) (w : World) (hT : PlT w) :
    Calls Tryd.prog 77 #[.agg A] w fun e w' => e = .returned (wdV (qDbl l 10)) ∧ Below w.heap.size w w' := by
  have HT : Hid (PlT w) := hT
  have HW : Hid (W16 l) := hl
  go_enter Tryd.func77, Tryd.ntmps77
  go_wp2_with (refine wpList_box_row (k := .u32) rfl 112 _ rfl (nI l) (by rw [← hA]; rfl) hl.ne (wdMax hl) ?_)
  intro w1 r1 b1 s1
  rw [hl.len] at r1
  go_wp2_with (refine wpList_alloc_row (k := .u32) rfl 112 rfl (nI z16) (alloc_wd _) z16_ok.ne (wdMax z16_ok) ?_)
  intro w2 r2 b2 s2
  rw [z16_ok.len] at r2
  replace r1 := r1.kept b2
  have hbw := stepB b1 b2
  have n1 : w.heap.size < w1.heap.size := by have := s1.out; omega
  clear b1 b2 s1 s2 hl hT hA
  go_wp2
  go_loopw [8] (fun iv wx => ∃ i : Nat, i ≤ 10 ∧ iv = .int .i64 (i : Int) ∧ RowAt .u32 112 w.heap.size 16 (nI (qDbl l i)) wx ∧ RowAt .u32 112 w1.heap.size 16 (nI z16) wx ∧ Below w.heap.size w wx) (fun iv _ => 10 - (intOf iv).toNat)
  case atStart => exact ⟨0, by omega, rfl, r1, r2, hbw⟩
  case round =>
    obtain ⟨i, hi, rfl, ra, rz, hbx⟩ := hrel
    clear r1 r2 hbw
    by_cases hlt : i < 10
    · have hd : decide ((i : Int) < 10) = true := decide_eq_true (by omega)
      have hiI : (i : Int) < 10 := by omega
      have ra0 : RowAt .u32 112 w.heap.size 16 (nI (qEi (qDbl l i) 0)) wr := ra
      clear ra
      go_wp2
      go_loopw [10] (fun kv wx => ∃ k : Nat, k ≤ 8 ∧ kv = .int .i64 (k : Int) ∧ RowAt .u32 112 w.heap.size 16 (nI (qEi (qDbl l i) k)) wx ∧ RowAt .u32 112 w1.heap.size 16 (nI z16) wx ∧ Below w.heap.size w wx) (fun kv _ => 8 - (intOf kv).toNat)
      case atStart => exact ⟨0, by omega, rfl, ra0, rz, hbx⟩
      case round =>
        obtain ⟨k, hk, rfl, ra, rz', hbx'⟩ := hrel
        clear ra0 rz hbx
        by_cases hltk : k < 8
        · have hdk : decide ((k : Int) < 8) = true := decide_eq_true (by omega)
          have hkI : (k : Int) < 8 := by omega
          have HT1 : PlT wr := HT.out.kept hbx'
          have t0 := HT1 (k * 4) (by omega)
          have t1 := HT1 (k * 4 + 1) (by omega)
          have t2 := HT1 (k * 4 + 2) (by omega)
          have t3 := HT1 (k * 4 + 3) (by omega)
          have p0 := pl_lt (k * 4) (by omega)
          have p1 := pl_lt (k * 4 + 1) (by omega)
          have p2 := pl_lt (k * 4 + 2) (by omega)
          have p3 := pl_lt (k * 4 + 3) (by omega)
          have HV : Hid (W16 (qEi (qDbl l i) k)) := qEi_ok (qDbl_ok HW.out i) k
          have HNext : Hid (qAt (qEi (qDbl l i) k) (plL.getD (k * 4) 0) (plL.getD (k * 4 + 1) 0) (plL.getD (k * 4 + 2) 0) (plL.getD (k * 4 + 3) 0) = qEi (qDbl l i) (k + 1)) := by show _ = _; rfl
          generalize plL.getD (k * 4) 0 = y0 at t0 p0 HNext
          generalize plL.getD (k * 4 + 1) 0 = y1 at t1 p1 HNext
          generalize plL.getD (k * 4 + 2) 0 = y2 at t2 p2 HNext
          generalize plL.getD (k * 4 + 3) 0 = y3 at t3 p3 HNext
          generalize qEi (qDbl l i) k = V at ra HV HNext
          go_wp2_with fail
          go_quiet (fail)
          have bq := below_drewN (Below.refl wr.heap.size wr) nq
          replace ra := ra.kept bq
          replace rz' := rz'.kept bq
          replace hbx' := stepB hbx' bq
          clear t0 t1 t2 t3 HT1 bq
          go_wp2_with fail
          generalize wr.drewN nq = wq at ra rz' hbx' ⊢
          have hlV : (nI V).length = 16 := HV.out.len
          have c0 := ra.cell (j := y0) (by omega)
          have c1 := ra.cell (j := y1) (by omega)
          have c2 := ra.cell (j := y2) (by omega)
          have c3 := ra.cell (j := y3) (by omega)
          rw [nI_get] at c0 c1 c2 c3
          have HlV : Hid _ := hlV
          have q0 : (y0 : Int) < 16 := by omega
          have q1 : (y1 : Int) < 16 := by omega
          have q2 : (y2 : Int) < 16 := by omega
          have q3 : (y3 : Int) < 16 := by omega
          clear hlV
          have hB : Below wq.heap.size wq wq.drew := (Below.refl _ _).drew
          refine wpF_begin 23 (w0 := wq) (by kernel_rfl) ?_
          refine fP_ (.inr hB) 0 rfl ⟨_, by intro W; go_simp <;> with_reducible rfl, ?_⟩
          try simp only [Act.put, pA_, pB_, pC_]
          refine fP_ (.inr hB) 1 rfl ⟨_, by intro W; go_simp <;> with_reducible rfl, ?_⟩
          try simp only [Act.put, pA_, pB_, pC_]
          refine fP_ (.inr hB) 2 rfl ⟨_, by intro W; go_simp <;> with_reducible rfl, ?_⟩
          try simp only [Act.put, pA_, pB_, pC_]
          refine fP_ (.inr hB) 3 rfl ⟨_, by intro W; go_simp <;> with_reducible rfl, ?_⟩
          try simp only [Act.put, pA_, pB_, pC_]
          refine fP_ (.inr hB) 4 rfl ⟨_, by intro W; go_simp <;> with_reducible rfl, ?_⟩
          try simp only [Act.put, pA_, pB_, pC_]
          refine fP_ (.inr hB) 5 rfl ⟨_, by intro W; go_simp <;> with_reducible rfl, ?_⟩
          try simp only [Act.put, pA_, pB_, pC_]
          refine fU_ hB 6 rfl ⟨_, by intro W hW; have hcW := cellK0 c0 hW; go_simp <;> with_reducible rfl, ?_⟩
          try simp only [Act.put, pA_, pB_, pC_]
          refine fP_ (.inr hB) 7 rfl ⟨_, by intro W; go_simp <;> with_reducible rfl, ?_⟩
          try simp only [Act.put, pA_, pB_, pC_]
          refine fP_ (.inr hB) 8 rfl ⟨_, by intro W; go_simp <;> with_reducible rfl, ?_⟩
          try simp only [Act.put, pA_, pB_, pC_]
          refine fU_ hB 9 rfl ⟨_, by intro W hW; have hcW := cellK0 c1 hW; go_simp <;> with_reducible rfl, ?_⟩
          try simp only [Act.put, pA_, pB_, pC_]
          refine fP_ (.inr hB) 10 rfl ⟨_, by intro W; go_simp <;> with_reducible rfl, ?_⟩
          try simp only [Act.put, pA_, pB_, pC_]
          refine fP_ (.inr hB) 11 rfl ⟨_, by intro W; go_simp <;> with_reducible rfl, ?_⟩
          try simp only [Act.put, pA_, pB_, pC_]
          refine fU_ hB 12 rfl ⟨_, by intro W hW; have hcW := cellK0 c2 hW; go_simp <;> with_reducible rfl, ?_⟩
          try simp only [Act.put, pA_, pB_, pC_]
          refine fP_ (.inr hB) 13 rfl ⟨_, by intro W; go_simp <;> with_reducible rfl, ?_⟩
          try simp only [Act.put, pA_, pB_, pC_]
          refine fP_ (.inr hB) 14 rfl ⟨_, by intro W; go_simp <;> with_reducible rfl, ?_⟩
          try simp only [Act.put, pA_, pB_, pC_]
          refine fU_ hB 15 rfl ⟨_, by intro W hW; have hcW := cellK0 c3 hW; go_simp <;> with_reducible rfl, ?_⟩
          try simp only [Act.put, pA_, pB_, pC_]
          refine fD_ 16 fun K hK => ?_
          go_simp
          refine (quarter_any (q4 V y0 y1 y2 y3) (q4_ok HV.out y0 y1 y2 y3) _ _ _ _ rfl rfl rfl rfl _).mono ?_
          rintro e w5 ⟨rfl, rfl⟩
          have r5 := ra.drew
          refine hK.out _ _ (.inr hB) ?_
          clear hK K
          try simp only [Act.put, pA_, pB_, pC_]
          refine fP_ (.inr hB) 17 rfl ⟨_, by intro W; go_simp <;> with_reducible rfl, ?_⟩
          try simp only [Act.put, pA_, pB_, pC_]
          refine fP_ (.inr hB) 18 rfl ⟨_, by intro W; go_simp <;> with_reducible rfl, ?_⟩
          try simp only [Act.put, pA_, pB_, pC_]
          refine fP_ (.inr hB) 19 rfl ⟨_, by intro W; go_simp <;> with_reducible rfl, ?_⟩
          try simp only [Act.put, pA_, pB_, pC_]
          refine fP_ (.inr hB) 20 rfl ⟨_, by intro W; go_simp <;> with_reducible rfl, ?_⟩
          try simp only [Act.put, pA_, pB_, pC_]
          refine fP_ (.inr hB) 21 rfl ⟨_, by intro W; go_simp <;> with_reducible rfl, ?_⟩
          try simp only [Act.put, pA_, pB_, pC_]
          refine fP_ (.inr hB) 22 rfl ⟨_, by intro W; go_simp <;> with_reducible rfl, ?_⟩
          try simp only [Act.put, pA_, pB_, pC_]
          refine fD_ 23 fun K hK => ?_
          refine wp_store_at _ _ (by rfl) (by rfl) _ (by rfl) r5 (by rw [HlV.out]; exact p0) ?_
          intro w6 r6 hw6
          rw [nI_set] at r6
          refine hK.out _ _ (.inl rfl) ?_
          clear hK K
          try simp only [Act.put, pA_, pB_, pC_]
          refine fP_ (.inl (by kernel_rfl)) 24 rfl ⟨_, by intro W; go_simp <;> with_reducible rfl, ?_⟩
          try simp only [Act.put, pA_, pB_, pC_]
          refine fM_ 25 fun K hK => ?_
          refine wp_store_at _ _ (by rfl) (by rfl) _ (by rfl) r6 (by simp only [nI_length, List.length_set]; rw [HV.out.1]; exact p1) ?_
          intro w7 r7 hw7
          rw [nI_set] at r7
          refine hK.out _ _ ?_
          clear hK K
          try simp only [Act.put, pA_, pB_, pC_]
          refine fP_ (.inl (by kernel_rfl)) 26 rfl ⟨_, by intro W; go_simp <;> with_reducible rfl, ?_⟩
          try simp only [Act.put, pA_, pB_, pC_]
          refine fM_ 27 fun K hK => ?_
          refine wp_store_at _ _ (by rfl) (by rfl) _ (by rfl) r7 (by simp only [nI_length, List.length_set]; rw [HV.out.1]; exact p2) ?_
          intro w8 r8 hw8
          rw [nI_set] at r8
          refine hK.out _ _ ?_
          clear hK K
          try simp only [Act.put, pA_, pB_, pC_]
          refine fP_ (.inl (by kernel_rfl)) 28 rfl ⟨_, by intro W; go_simp <;> with_reducible rfl, ?_⟩
          try simp only [Act.put, pA_, pB_, pC_]
          refine fM_ 29 fun K hK => ?_
          refine wp_store_at _ _ (by rfl) (by rfl) _ (by rfl) r8 (by simp only [nI_length, List.length_set]; rw [HV.out.1]; exact p3) ?_
          intro w9 r9 hw9
          rw [nI_set] at r9
          refine hK.out _ _ ?_
          clear hK K
          try simp only [Act.put, pA_, pB_, pC_]
          refine wpF_done (by kernel_rfl) ?_
          have hws := (((hw6.trans hw7).trans hw8).trans hw9).ofdrew
          have r10 : RowAt .u32 112 w.heap.size 16 (nI (qEi (qDbl l i) (k + 1))) w9 := by
            rw [← HNext.out]
            exact r9
          have rz10 := rz'.wrote hws (by omega)
          have hb10 := hws.below _ _ (Nat.le_refl _) hbx'
          clear ra rz' hbx' c0 c1 c2 c3 r5 r6 r7 r8 r9 hw6 hw7 hw8 hw9 hws hB
          go_wp2
          go_roundw
          case rel => exact ⟨k + 1, by omega, by go_num, r10, rz10, hb10⟩
          case measure => simp [intOf] <;> omega
        · have hke : k = 8 := by omega
          have hdk : decide ((k : Int) < 8) = false := decide_eq_false (by omega)
          have hkI : (8 : Int) ≤ (k : Int) := by omega
          have r10 : RowAt .u32 112 w.heap.size 16 (nI (qDbl l (i + 1))) wr := by
            rw [hke, qEi_eight] at ra
            exact ra
          clear ra hke
          go_wp2
          go_roundw
          case rel => exact ⟨i + 1, by omega, by go_num, r10, rz', hbx'⟩
          case measure => simp [intOf] <;> omega
    · have hie : i = 10 := by omega
      have hd : decide ((i : Int) < 10) = false := decide_eq_false (by omega)
      have hiI : (10 : Int) ≤ (i : Int) := by omega
      have hB : W16 (qDbl l 10) := qDbl_ok HW.out 10
      rw [hie] at ra
      clear hie
      obtain ⟨B, hBe⟩ : ∃ B : List Nat, B = qDbl l 10 := ⟨_, rfl⟩
      rw [← hBe] at ra hB
      have HBe : Hid _ := hBe
      clear hBe
      go_wp2_with (first | refine wpList_load_row rfl 112 _ rfl rfl ra _ Tryd.underlying112 rfl (wdInfo hB) ?_ | (refine wpList_store_row rfl 112 _ _ rfl (nI B) rfl rfl rz (by rw [z16_ok.len, hB.len]) (wdInfo z16_ok) ?_; intro w7 r7 hw7))
      refine bodyPost_row (k := .u32) rfl rfl rfl r7 Tryd.underlying112 rfl (wdInfo hB) ?_
      exact ⟨by rw [HBe.out], hw7.below _ _ (by omega) hbx⟩
end Go.Proofs.YtliiofjcghdjoaaDoor
