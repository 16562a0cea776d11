/- What a state is after all its turns: a contract of package chacha, third part. -/
import Derived.Test.YtenljbljaffehaaDoorC07b
import Derived.BigQuiet
namespace Go.Proofs.YtenljbljaffehaaDoor
open Go.ChangeShapes Go.WideShapes Go.ChangeAt Go.RowKit
set_option linter.unusedSimpArgs false
set_option linter.unusedVariables false

/-- The places of the words that go into each quarter round. -/
def plL : List Nat := [0, 4, 8, 12, 1, 5, 9, 13, 2, 6, 10, 14, 3, 7, 11, 15, 0, 5, 10, 15, 1, 6, 11, 12, 2, 7, 8, 13, 3, 4, 9, 14]
/-- The table lies where the program laid it. -/
def PlT (w : World) : Prop := ∀ i, i < 32 → w.cell? ⟨1, i, none⟩ = some (.int .i64 ((plL.getD i 0 : Nat) : Int))
theorem PlT.kept {w w' : World} (h : PlT w) (hb : Below w.heap.size w w') : PlT w' := fun i hi => by
  rw [hb.cell (p := ⟨1, i, none⟩) (World.block_lt_of_cell? w _ (h i hi))]
  exact h i hi
/-- So many quarter rounds of the table. -/
def qEi (v : List Nat) : Nat → List Nat
  | 0 => v
  | k + 1 => qAt (qEi v k) (plL.getD (k * 4) 0) (plL.getD (k * 4 + 1) 0) (plL.getD (k * 4 + 2) 0) (plL.getD (k * 4 + 3) 0)
theorem qEi_ok {v : List Nat} (h : W16 v) : ∀ k, W16 (qEi v k)
  | 0 => h
  | k + 1 => qAt_ok (qEi_ok h k) _ _ _ _
theorem qEi_eight (v : List Nat) : qEi v 8 = qDia (qCol v 4) 4 := rfl
theorem pl_lt : ∀ i, i < 32 → plL.getD i 0 < 16 := by decide

set_option maxRecDepth 100000 in
set_option maxHeartbeats 4000000 in
theorem mixed_any (A : Array Value) (l : List Nat) (hl : W16 l) (hA : A = ((nI l).map (Value.int .u32)).toArray) (w : World) (hT : PlT w) :
    Calls Tryd.prog 47 #[.agg A] w fun e w' => e = .returned (wdV (qDbl l 10)) ∧ Below w.heap.size w w' := by
  have HT : Hid (PlT w) := hT
  have HW : Hid (W16 l) := hl
  go_enter Tryd.func47, Tryd.ntmps47
  go_wp2_with (refine wpList_box_row (k := .u32) rfl 47 _ rfl (nI l) (by rw [← hA]; rfl) hl.ne (wdMax hl) ?_)
  intro w1 r1 b1 s1
  rw [hl.len] at r1
  go_wp2_with (refine wpList_alloc_row (k := .u32) rfl 47 rfl (nI z16) (alloc_wd _) z16_ok.ne (wdMax z16_ok) ?_)
  intro w2 r2 b2 s2
  rw [z16_ok.len] at r2
  replace r1 := r1.kept b2
  have hbw := stepB b1 b2
  have n1 : w.heap.size < w1.heap.size := by have := s1.out; omega
  clear b1 b2 s1 s2 hl hT hA
  go_wp2
  go_loopw [8] (fun iv wx => ∃ i : Nat, i ≤ 10 ∧ iv = .int .i64 (i : Int) ∧ RowAt .u32 47 w.heap.size 16 (nI (qDbl l i)) wx ∧ RowAt .u32 47 w1.heap.size 16 (nI z16) wx ∧ Below w.heap.size w wx) (fun iv _ => 10 - (intOf iv).toNat)
  case atStart => exact ⟨0, by omega, rfl, r1, r2, hbw⟩
  case round =>
    obtain ⟨i, hi, rfl, ra, rz, hbx⟩ := hrel
    clear r1 r2 hbw
    by_cases hlt : i < 10
    · have hd : decide ((i : Int) < 10) = true := decide_eq_true (by omega)
      have hiI : (i : Int) < 10 := by omega
      have ra0 : RowAt .u32 47 w.heap.size 16 (nI (qEi (qDbl l i) 0)) wr := ra
      clear ra
      go_wp2
      go_loopw [10] (fun kv wx => ∃ k : Nat, k ≤ 8 ∧ kv = .int .i64 (k : Int) ∧ RowAt .u32 47 w.heap.size 16 (nI (qEi (qDbl l i) k)) wx ∧ RowAt .u32 47 w1.heap.size 16 (nI z16) wx ∧ Below w.heap.size w wx) (fun kv _ => 8 - (intOf kv).toNat)
      case atStart => exact ⟨0, by omega, rfl, ra0, rz, hbx⟩
      case round =>
        obtain ⟨k, hk, rfl, ra, rz', hbx'⟩ := hrel
        clear ra0 rz hbx
        by_cases hltk : k < 8
        · have hdk : decide ((k : Int) < 8) = true := decide_eq_true (by omega)
          have hkI : (k : Int) < 8 := by omega
          have HT1 : PlT wr := HT.out.kept hbx'
          have t0 := HT1 (k * 4) (by omega)
          have t1 := HT1 (k * 4 + 1) (by omega)
          have t2 := HT1 (k * 4 + 2) (by omega)
          have t3 := HT1 (k * 4 + 3) (by omega)
          have p0 := pl_lt (k * 4) (by omega)
          have p1 := pl_lt (k * 4 + 1) (by omega)
          have p2 := pl_lt (k * 4 + 2) (by omega)
          have p3 := pl_lt (k * 4 + 3) (by omega)
          have HV : Hid (W16 (qEi (qDbl l i) k)) := qEi_ok (qDbl_ok HW.out i) k
          have HNext : Hid (qAt (qEi (qDbl l i) k) (plL.getD (k * 4) 0) (plL.getD (k * 4 + 1) 0) (plL.getD (k * 4 + 2) 0) (plL.getD (k * 4 + 3) 0) = qEi (qDbl l i) (k + 1)) := by show _ = _; rfl
          generalize plL.getD (k * 4) 0 = y0 at t0 p0 HNext
          generalize plL.getD (k * 4 + 1) 0 = y1 at t1 p1 HNext
          generalize plL.getD (k * 4 + 2) 0 = y2 at t2 p2 HNext
          generalize plL.getD (k * 4 + 3) 0 = y3 at t3 p3 HNext
          generalize qEi (qDbl l i) k = V at ra HV HNext
          go_wp2_with fail
          go_quiet (fail)
          have bq := below_drewN (Below.refl wr.heap.size wr) nq
          replace ra := ra.kept bq
          replace rz' := rz'.kept bq
          replace hbx' := stepB hbx' bq
          clear t0 t1 t2 t3 HT1 bq
          go_wp2_with fail
          generalize wr.drewN nq = wq at ra rz' hbx' ⊢
          have hlV : (nI V).length = 16 := HV.out.len
          have c0 := ra.cell (j := y0) (by omega)
          have c1 := ra.cell (j := y1) (by omega)
          have c2 := ra.cell (j := y2) (by omega)
          have c3 := ra.cell (j := y3) (by omega)
          rw [nI_get] at c0 c1 c2 c3
          have HlV : Hid _ := hlV
          have q0 : (y0 : Int) < 16 := by omega
          have q1 : (y1 : Int) < 16 := by omega
          have q2 : (y2 : Int) < 16 := by omega
          have q3 : (y3 : Int) < 16 := by omega
          clear hlV
          have hB : Below wq.heap.size wq wq.drew := (Below.refl _ _).drew
          refine wpF_begin 23 (w0 := wq) (by kernel_rfl) ?_
          refine wpF_pure (hb := .inr hB) (i := 0) (oi := { dst := some 30, op := Op.move (Operand.tmp 4), type := 3, pos := "chacha.go:76", after := #[], guard := none }) (v := ?_) rfl (by decide) (by kernel_rfl) (by kernel_rfl) (by kernel_rfl) (by rfl) ?_ ?_
          rotate_left
          · intro W; first | (go_simp; done) | (go_simp; with_reducible rfl)
          try simp only [Act.put, List.setIfInBounds_toArray, List.set_cons_zero, List.set_cons_succ]
          refine wpF_pure (hb := .inr hB) (i := 1) (oi := { dst := some 31, op := Op.move (Operand.tmp 5), type := 3, pos := "chacha.go:76", after := #[{ on := 23, ground := Ground.gcOnly Departure.lateStores }], guard := none }) (v := ?_) rfl (by decide) (by kernel_rfl) (by kernel_rfl) (by kernel_rfl) (by rfl) ?_ ?_
          rotate_left
          · intro W; first | (go_simp; done) | (go_simp; with_reducible rfl)
          try simp only [Act.put, List.setIfInBounds_toArray, List.set_cons_zero, List.set_cons_succ]
          refine wpF_pure (hb := .inr hB) (i := 2) (oi := { dst := some 32, op := Op.move (Operand.tmp 6), type := 3, pos := "chacha.go:76", after := #[{ on := 25, ground := Ground.gcOnly Departure.lateStores }], guard := none }) (v := ?_) rfl (by decide) (by kernel_rfl) (by kernel_rfl) (by kernel_rfl) (by rfl) ?_ ?_
          rotate_left
          · intro W; first | (go_simp; done) | (go_simp; with_reducible rfl)
          try simp only [Act.put, List.setIfInBounds_toArray, List.set_cons_zero, List.set_cons_succ]
          refine wpF_pure (hb := .inr hB) (i := 3) (oi := { dst := some 33, op := Op.move (Operand.tmp 7), type := 3, pos := "chacha.go:76", after := #[{ on := 27, ground := Ground.gcOnly Departure.lateStores }], guard := none }) (v := ?_) rfl (by decide) (by kernel_rfl) (by kernel_rfl) (by kernel_rfl) (by rfl) ?_ ?_
          rotate_left
          · intro W; first | (go_simp; done) | (go_simp; with_reducible rfl)
          try simp only [Act.put, List.setIfInBounds_toArray, List.set_cons_zero, List.set_cons_succ]
          refine wpF_pure (hb := .inr hB) (i := 4) (oi := { dst := some 34, op := Op.move (Operand.tmp 4), type := 3, pos := "chacha.go:76", after := #[], guard := none }) (v := ?_) rfl (by decide) (by kernel_rfl) (by kernel_rfl) (by kernel_rfl) (by rfl) ?_ ?_
          rotate_left
          · intro W; first | (go_simp; done) | (go_simp; with_reducible rfl)
          try simp only [Act.put, List.setIfInBounds_toArray, List.set_cons_zero, List.set_cons_succ]
          refine wpF_pure (hb := .inr hB) (i := 5) (oi := { dst := some 35, op := Op.indexAddr 47 (Operand.tmp 1) (Operand.tmp 34), type := 0, pos := "chacha.go:76", after := #[{ on := 4, ground := Ground.data }], guard := none }) (v := ?_) rfl (by decide) (by kernel_rfl) (by kernel_rfl) (by kernel_rfl) (by rfl) ?_ ?_
          rotate_left
          · intro W; first | (go_simp; done) | (go_simp; with_reducible rfl)
          try simp only [Act.put, List.setIfInBounds_toArray, List.set_cons_zero, List.set_cons_succ]
          refine wpF_take (hb := hB) (i := 6) (oi := { dst := some 36, op := Op.load 36 (Operand.tmp 35), type := 36, pos := "chacha.go:76", after := #[{ on := 5, ground := Ground.data }], guard := none }) (v := ?_) rfl (by decide) (by kernel_rfl) (by kernel_rfl) (by kernel_rfl) (by kernel_rfl) (by kernel_rfl) (by rfl) ?_ ?_
          rotate_left
          · intro W hW; have hcW := cellK0 c0 hW; first | (go_simp; done) | (go_simp; with_reducible rfl)
          try simp only [Act.put, List.setIfInBounds_toArray, List.set_cons_zero, List.set_cons_succ]
          refine wpF_pure (hb := .inr hB) (i := 7) (oi := { dst := some 37, op := Op.move (Operand.tmp 5), type := 3, pos := "chacha.go:76", after := #[], guard := none }) (v := ?_) rfl (by decide) (by kernel_rfl) (by kernel_rfl) (by kernel_rfl) (by rfl) ?_ ?_
          rotate_left
          · intro W; first | (go_simp; done) | (go_simp; with_reducible rfl)
          try simp only [Act.put, List.setIfInBounds_toArray, List.set_cons_zero, List.set_cons_succ]
          refine wpF_pure (hb := .inr hB) (i := 8) (oi := { dst := some 38, op := Op.indexAddr 47 (Operand.tmp 1) (Operand.tmp 37), type := 0, pos := "chacha.go:76", after := #[{ on := 7, ground := Ground.data }], guard := none }) (v := ?_) rfl (by decide) (by kernel_rfl) (by kernel_rfl) (by kernel_rfl) (by rfl) ?_ ?_
          rotate_left
          · intro W; first | (go_simp; done) | (go_simp; with_reducible rfl)
          try simp only [Act.put, List.setIfInBounds_toArray, List.set_cons_zero, List.set_cons_succ]
          refine wpF_take (hb := hB) (i := 9) (oi := { dst := some 39, op := Op.load 36 (Operand.tmp 38), type := 36, pos := "chacha.go:76", after := #[{ on := 8, ground := Ground.data }], guard := none }) (v := ?_) rfl (by decide) (by kernel_rfl) (by kernel_rfl) (by kernel_rfl) (by kernel_rfl) (by kernel_rfl) (by rfl) ?_ ?_
          rotate_left
          · intro W hW; have hcW := cellK0 c1 hW; first | (go_simp; done) | (go_simp; with_reducible rfl)
          try simp only [Act.put, List.setIfInBounds_toArray, List.set_cons_zero, List.set_cons_succ]
          refine wpF_pure (hb := .inr hB) (i := 10) (oi := { dst := some 40, op := Op.move (Operand.tmp 6), type := 3, pos := "chacha.go:76", after := #[], guard := none }) (v := ?_) rfl (by decide) (by kernel_rfl) (by kernel_rfl) (by kernel_rfl) (by rfl) ?_ ?_
          rotate_left
          · intro W; first | (go_simp; done) | (go_simp; with_reducible rfl)
          try simp only [Act.put, List.setIfInBounds_toArray, List.set_cons_zero, List.set_cons_succ]
          refine wpF_pure (hb := .inr hB) (i := 11) (oi := { dst := some 41, op := Op.indexAddr 47 (Operand.tmp 1) (Operand.tmp 40), type := 0, pos := "chacha.go:76", after := #[{ on := 10, ground := Ground.data }], guard := none }) (v := ?_) rfl (by decide) (by kernel_rfl) (by kernel_rfl) (by kernel_rfl) (by rfl) ?_ ?_
          rotate_left
          · intro W; first | (go_simp; done) | (go_simp; with_reducible rfl)
          try simp only [Act.put, List.setIfInBounds_toArray, List.set_cons_zero, List.set_cons_succ]
          refine wpF_take (hb := hB) (i := 12) (oi := { dst := some 42, op := Op.load 36 (Operand.tmp 41), type := 36, pos := "chacha.go:76", after := #[{ on := 11, ground := Ground.data }], guard := none }) (v := ?_) rfl (by decide) (by kernel_rfl) (by kernel_rfl) (by kernel_rfl) (by kernel_rfl) (by kernel_rfl) (by rfl) ?_ ?_
          rotate_left
          · intro W hW; have hcW := cellK0 c2 hW; first | (go_simp; done) | (go_simp; with_reducible rfl)
          try simp only [Act.put, List.setIfInBounds_toArray, List.set_cons_zero, List.set_cons_succ]
          refine wpF_pure (hb := .inr hB) (i := 13) (oi := { dst := some 43, op := Op.move (Operand.tmp 7), type := 3, pos := "chacha.go:76", after := #[], guard := none }) (v := ?_) rfl (by decide) (by kernel_rfl) (by kernel_rfl) (by kernel_rfl) (by rfl) ?_ ?_
          rotate_left
          · intro W; first | (go_simp; done) | (go_simp; with_reducible rfl)
          try simp only [Act.put, List.setIfInBounds_toArray, List.set_cons_zero, List.set_cons_succ]
          refine wpF_pure (hb := .inr hB) (i := 14) (oi := { dst := some 44, op := Op.indexAddr 47 (Operand.tmp 1) (Operand.tmp 43), type := 0, pos := "chacha.go:76", after := #[{ on := 13, ground := Ground.data }], guard := none }) (v := ?_) rfl (by decide) (by kernel_rfl) (by kernel_rfl) (by kernel_rfl) (by rfl) ?_ ?_
          rotate_left
          · intro W; first | (go_simp; done) | (go_simp; with_reducible rfl)
          try simp only [Act.put, List.setIfInBounds_toArray, List.set_cons_zero, List.set_cons_succ]
          refine wpF_take (hb := hB) (i := 15) (oi := { dst := some 45, op := Op.load 36 (Operand.tmp 44), type := 36, pos := "chacha.go:76", after := #[{ on := 14, ground := Ground.data }], guard := none }) (v := ?_) rfl (by decide) (by kernel_rfl) (by kernel_rfl) (by kernel_rfl) (by kernel_rfl) (by kernel_rfl) (by rfl) ?_ ?_
          rotate_left
          · intro W hW; have hcW := cellK0 c3 hW; first | (go_simp; done) | (go_simp; with_reducible rfl)
          try simp only [Act.put, List.setIfInBounds_toArray, List.set_cons_zero, List.set_cons_succ]
          refine wpF_do (i := 16) (o := { dst := some 46, op := Op.call { callee := Callee.value (Operand.func 52), args := #[Operand.tmp 36, Operand.tmp 39, Operand.tmp 42, Operand.tmp 45], argTypes := #[36, 36, 36, 36] }, type := 76, pos := "chacha.go:76", after := #[{ on := 6, ground := Ground.data }, { on := 9, ground := Ground.data }, { on := 12, ground := Ground.data }, { on := 15, ground := Ground.data }], guard := none }) (by kernel_rfl) rfl (by rfl) fun K hK => ?_
          go_simp
          refine (quarter_any (q4 V y0 y1 y2 y3) (q4_ok HV.out y0 y1 y2 y3) _ _ _ _ rfl rfl rfl rfl _).mono ?_
          rintro e w5 ⟨rfl, rfl⟩
          have r5 := ra.drew
          refine hK.out _ _ (.inr hB) ?_
          clear hK K
          try simp only [Act.put, List.setIfInBounds_toArray, List.set_cons_zero, List.set_cons_succ]
          refine wpF_pure (hb := .inr hB) (i := 17) (oi := { dst := some 29, op := Op.move (Operand.tmp 46), type := 76, pos := "chacha.go:76", after := #[{ on := 16, ground := Ground.data }], guard := none }) (v := ?_) rfl (by decide) (by kernel_rfl) (by kernel_rfl) (by kernel_rfl) (by rfl) ?_ ?_
          rotate_left
          · intro W; first | (go_simp; done) | (go_simp; with_reducible rfl)
          try simp only [Act.put, List.setIfInBounds_toArray, List.set_cons_zero, List.set_cons_succ]
          refine wpF_pure (hb := .inr hB) (i := 18) (oi := { dst := some 47, op := Op.extract (Operand.tmp 29) 0, type := 36, pos := "chacha.go:76", after := #[{ on := 17, ground := Ground.data }], guard := none }) (v := ?_) rfl (by decide) (by kernel_rfl) (by kernel_rfl) (by kernel_rfl) (by rfl) ?_ ?_
          rotate_left
          · intro W; first | (go_simp; done) | (go_simp; with_reducible rfl)
          try simp only [Act.put, List.setIfInBounds_toArray, List.set_cons_zero, List.set_cons_succ]
          refine wpF_pure (hb := .inr hB) (i := 19) (oi := { dst := some 48, op := Op.extract (Operand.tmp 29) 1, type := 36, pos := "chacha.go:76", after := #[{ on := 17, ground := Ground.data }, { on := 23, ground := Ground.gcOnly Departure.lateStores }], guard := none }) (v := ?_) rfl (by decide) (by kernel_rfl) (by kernel_rfl) (by kernel_rfl) (by rfl) ?_ ?_
          rotate_left
          · intro W; first | (go_simp; done) | (go_simp; with_reducible rfl)
          try simp only [Act.put, List.setIfInBounds_toArray, List.set_cons_zero, List.set_cons_succ]
          refine wpF_pure (hb := .inr hB) (i := 20) (oi := { dst := some 49, op := Op.extract (Operand.tmp 29) 2, type := 36, pos := "chacha.go:76", after := #[{ on := 17, ground := Ground.data }, { on := 25, ground := Ground.gcOnly Departure.lateStores }], guard := none }) (v := ?_) rfl (by decide) (by kernel_rfl) (by kernel_rfl) (by kernel_rfl) (by rfl) ?_ ?_
          rotate_left
          · intro W; first | (go_simp; done) | (go_simp; with_reducible rfl)
          try simp only [Act.put, List.setIfInBounds_toArray, List.set_cons_zero, List.set_cons_succ]
          refine wpF_pure (hb := .inr hB) (i := 21) (oi := { dst := some 50, op := Op.extract (Operand.tmp 29) 3, type := 36, pos := "chacha.go:76", after := #[{ on := 17, ground := Ground.data }, { on := 27, ground := Ground.gcOnly Departure.lateStores }], guard := none }) (v := ?_) rfl (by decide) (by kernel_rfl) (by kernel_rfl) (by kernel_rfl) (by rfl) ?_ ?_
          rotate_left
          · intro W; first | (go_simp; done) | (go_simp; with_reducible rfl)
          try simp only [Act.put, List.setIfInBounds_toArray, List.set_cons_zero, List.set_cons_succ]
          refine wpF_pure (hb := .inr hB) (i := 22) (oi := { dst := some 51, op := Op.indexAddr 47 (Operand.tmp 1) (Operand.tmp 30), type := 0, pos := "chacha.go:76", after := #[{ on := 0, ground := Ground.data }, { on := 0, ground := Ground.phase }, { on := 1, ground := Ground.textOnly Departure.lateStores }, { on := 2, ground := Ground.textOnly Departure.lateStores }, { on := 3, ground := Ground.textOnly Departure.lateStores }, { on := 4, ground := Ground.phase }, { on := 5, ground := Ground.phase }, { on := 6, ground := Ground.phase }, { on := 7, ground := Ground.phase }, { on := 8, ground := Ground.phase }, { on := 9, ground := Ground.phase }, { on := 10, ground := Ground.phase }, { on := 11, ground := Ground.phase }, { on := 12, ground := Ground.phase }, { on := 13, ground := Ground.phase }, { on := 14, ground := Ground.phase }, { on := 15, ground := Ground.phase }, { on := 16, ground := Ground.phase }, { on := 17, ground := Ground.phase }, { on := 18, ground := Ground.phase }, { on := 19, ground := Ground.textOnly Departure.lateStores }, { on := 20, ground := Ground.textOnly Departure.lateStores }, { on := 21, ground := Ground.textOnly Departure.lateStores }], guard := none }) (v := ?_) rfl (by decide) (by kernel_rfl) (by kernel_rfl) (by kernel_rfl) (by rfl) ?_ ?_
          rotate_left
          · intro W; first | (go_simp; done) | (go_simp; with_reducible rfl)
          try simp only [Act.put, List.setIfInBounds_toArray, List.set_cons_zero, List.set_cons_succ]
          refine wpF_do (i := 23) (o := { dst := none, op := Op.store 36 (Operand.tmp 51) (Operand.tmp 47), type := 0, pos := "chacha.go:76", after := #[{ on := 22, ground := Ground.data }, { on := 18, ground := Ground.data }, { on := 16, ground := Ground.chain }, { on := 0, ground := Ground.phase }, { on := 1, ground := Ground.textOnly Departure.lateStores }, { on := 2, ground := Ground.textOnly Departure.lateStores }, { on := 3, ground := Ground.textOnly Departure.lateStores }, { on := 4, ground := Ground.phase }, { on := 5, ground := Ground.phase }, { on := 6, ground := Ground.phase }, { on := 7, ground := Ground.phase }, { on := 8, ground := Ground.phase }, { on := 9, ground := Ground.phase }, { on := 10, ground := Ground.phase }, { on := 11, ground := Ground.phase }, { on := 12, ground := Ground.phase }, { on := 13, ground := Ground.phase }, { on := 14, ground := Ground.phase }, { on := 15, ground := Ground.phase }, { on := 16, ground := Ground.phase }, { on := 17, ground := Ground.phase }, { on := 18, ground := Ground.phase }, { on := 19, ground := Ground.textOnly Departure.lateStores }, { on := 20, ground := Ground.textOnly Departure.lateStores }, { on := 21, ground := Ground.textOnly Departure.lateStores }], guard := none }) (by kernel_rfl) rfl (by rfl) fun K hK => ?_
          refine wp_store_at _ _ (by rfl) (by rfl) _ (by rfl) r5 (by rw [HlV.out]; exact p0) ?_
          intro w6 r6 hw6
          rw [nI_set] at r6
          refine hK.out _ _ (.inl rfl) ?_
          clear hK K
          try simp only [Act.put, List.setIfInBounds_toArray, List.set_cons_zero, List.set_cons_succ]
          refine wpF_pure (hb := .inl (by kernel_rfl)) (i := 24) (oi := { dst := some 52, op := Op.indexAddr 47 (Operand.tmp 1) (Operand.tmp 31), type := 0, pos := "chacha.go:76", after := #[{ on := 1, ground := Ground.data }, { on := 0, ground := Ground.phase }, { on := 1, ground := Ground.phase }, { on := 2, ground := Ground.textOnly Departure.lateStores }, { on := 3, ground := Ground.textOnly Departure.lateStores }, { on := 4, ground := Ground.phase }, { on := 5, ground := Ground.phase }, { on := 6, ground := Ground.phase }, { on := 7, ground := Ground.phase }, { on := 8, ground := Ground.phase }, { on := 9, ground := Ground.phase }, { on := 10, ground := Ground.phase }, { on := 11, ground := Ground.phase }, { on := 12, ground := Ground.phase }, { on := 13, ground := Ground.phase }, { on := 14, ground := Ground.phase }, { on := 15, ground := Ground.phase }, { on := 16, ground := Ground.phase }, { on := 17, ground := Ground.phase }, { on := 18, ground := Ground.phase }, { on := 19, ground := Ground.phase }, { on := 20, ground := Ground.textOnly Departure.lateStores }, { on := 21, ground := Ground.textOnly Departure.lateStores }, { on := 22, ground := Ground.phase }, { on := 23, ground := Ground.phase }], guard := none }) (v := ?_) rfl (by decide) (by kernel_rfl) (by kernel_rfl) (by kernel_rfl) (by rfl) ?_ ?_
          rotate_left
          · intro W; first | (go_simp; done) | (go_simp; with_reducible rfl)
          try simp only [Act.put, List.setIfInBounds_toArray, List.set_cons_zero, List.set_cons_succ]
          refine wpF_more (i := 25) (o := { dst := none, op := Op.store 36 (Operand.tmp 52) (Operand.tmp 48), type := 0, pos := "chacha.go:76", after := #[{ on := 24, ground := Ground.data }, { on := 19, ground := Ground.data }, { on := 23, ground := Ground.chain }, { on := 0, ground := Ground.phase }, { on := 1, ground := Ground.phase }, { on := 2, ground := Ground.textOnly Departure.lateStores }, { on := 3, ground := Ground.textOnly Departure.lateStores }, { on := 4, ground := Ground.phase }, { on := 5, ground := Ground.phase }, { on := 6, ground := Ground.phase }, { on := 7, ground := Ground.phase }, { on := 8, ground := Ground.phase }, { on := 9, ground := Ground.phase }, { on := 10, ground := Ground.phase }, { on := 11, ground := Ground.phase }, { on := 12, ground := Ground.phase }, { on := 13, ground := Ground.phase }, { on := 14, ground := Ground.phase }, { on := 15, ground := Ground.phase }, { on := 16, ground := Ground.phase }, { on := 17, ground := Ground.phase }, { on := 18, ground := Ground.phase }, { on := 19, ground := Ground.phase }, { on := 20, ground := Ground.textOnly Departure.lateStores }, { on := 21, ground := Ground.textOnly Departure.lateStores }, { on := 22, ground := Ground.phase }, { on := 23, ground := Ground.phase }], guard := none }) (by kernel_rfl) (by kernel_rfl) rfl (by rfl) fun K hK => ?_
          refine wp_store_at _ _ (by rfl) (by rfl) _ (by rfl) r6 (by simp only [nI_length, List.length_set]; rw [HV.out.1]; exact p1) ?_
          intro w7 r7 hw7
          rw [nI_set] at r7
          refine hK.out _ _ ?_
          clear hK K
          try simp only [Act.put, List.setIfInBounds_toArray, List.set_cons_zero, List.set_cons_succ]
          refine wpF_pure (hb := .inl (by kernel_rfl)) (i := 26) (oi := { dst := some 53, op := Op.indexAddr 47 (Operand.tmp 1) (Operand.tmp 32), type := 0, pos := "chacha.go:76", after := #[{ on := 2, ground := Ground.data }, { on := 0, ground := Ground.phase }, { on := 1, ground := Ground.phase }, { on := 2, ground := Ground.phase }, { on := 3, ground := Ground.textOnly Departure.lateStores }, { on := 4, ground := Ground.phase }, { on := 5, ground := Ground.phase }, { on := 6, ground := Ground.phase }, { on := 7, ground := Ground.phase }, { on := 8, ground := Ground.phase }, { on := 9, ground := Ground.phase }, { on := 10, ground := Ground.phase }, { on := 11, ground := Ground.phase }, { on := 12, ground := Ground.phase }, { on := 13, ground := Ground.phase }, { on := 14, ground := Ground.phase }, { on := 15, ground := Ground.phase }, { on := 16, ground := Ground.phase }, { on := 17, ground := Ground.phase }, { on := 18, ground := Ground.phase }, { on := 19, ground := Ground.phase }, { on := 20, ground := Ground.phase }, { on := 21, ground := Ground.textOnly Departure.lateStores }, { on := 22, ground := Ground.phase }, { on := 23, ground := Ground.phase }, { on := 24, ground := Ground.phase }, { on := 25, ground := Ground.phase }], guard := none }) (v := ?_) rfl (by decide) (by kernel_rfl) (by kernel_rfl) (by kernel_rfl) (by rfl) ?_ ?_
          rotate_left
          · intro W; first | (go_simp; done) | (go_simp; with_reducible rfl)
          try simp only [Act.put, List.setIfInBounds_toArray, List.set_cons_zero, List.set_cons_succ]
          refine wpF_more (i := 27) (o := { dst := none, op := Op.store 36 (Operand.tmp 53) (Operand.tmp 49), type := 0, pos := "chacha.go:76", after := #[{ on := 26, ground := Ground.data }, { on := 20, ground := Ground.data }, { on := 25, ground := Ground.chain }, { on := 0, ground := Ground.phase }, { on := 1, ground := Ground.phase }, { on := 2, ground := Ground.phase }, { on := 3, ground := Ground.textOnly Departure.lateStores }, { on := 4, ground := Ground.phase }, { on := 5, ground := Ground.phase }, { on := 6, ground := Ground.phase }, { on := 7, ground := Ground.phase }, { on := 8, ground := Ground.phase }, { on := 9, ground := Ground.phase }, { on := 10, ground := Ground.phase }, { on := 11, ground := Ground.phase }, { on := 12, ground := Ground.phase }, { on := 13, ground := Ground.phase }, { on := 14, ground := Ground.phase }, { on := 15, ground := Ground.phase }, { on := 16, ground := Ground.phase }, { on := 17, ground := Ground.phase }, { on := 18, ground := Ground.phase }, { on := 19, ground := Ground.phase }, { on := 20, ground := Ground.phase }, { on := 21, ground := Ground.textOnly Departure.lateStores }, { on := 22, ground := Ground.phase }, { on := 23, ground := Ground.phase }, { on := 24, ground := Ground.phase }, { on := 25, ground := Ground.phase }], guard := none }) (by kernel_rfl) (by kernel_rfl) rfl (by rfl) fun K hK => ?_
          refine wp_store_at _ _ (by rfl) (by rfl) _ (by rfl) r7 (by simp only [nI_length, List.length_set]; rw [HV.out.1]; exact p2) ?_
          intro w8 r8 hw8
          rw [nI_set] at r8
          refine hK.out _ _ ?_
          clear hK K
          try simp only [Act.put, List.setIfInBounds_toArray, List.set_cons_zero, List.set_cons_succ]
          refine wpF_pure (hb := .inl (by kernel_rfl)) (i := 28) (oi := { dst := some 54, op := Op.indexAddr 47 (Operand.tmp 1) (Operand.tmp 33), type := 0, pos := "chacha.go:76", after := #[{ on := 3, ground := Ground.data }, { on := 0, ground := Ground.phase }, { on := 1, ground := Ground.phase }, { on := 2, ground := Ground.phase }, { on := 3, ground := Ground.phase }, { on := 4, ground := Ground.phase }, { on := 5, ground := Ground.phase }, { on := 6, ground := Ground.phase }, { on := 7, ground := Ground.phase }, { on := 8, ground := Ground.phase }, { on := 9, ground := Ground.phase }, { on := 10, ground := Ground.phase }, { on := 11, ground := Ground.phase }, { on := 12, ground := Ground.phase }, { on := 13, ground := Ground.phase }, { on := 14, ground := Ground.phase }, { on := 15, ground := Ground.phase }, { on := 16, ground := Ground.phase }, { on := 17, ground := Ground.phase }, { on := 18, ground := Ground.phase }, { on := 19, ground := Ground.phase }, { on := 20, ground := Ground.phase }, { on := 21, ground := Ground.phase }, { on := 22, ground := Ground.phase }, { on := 23, ground := Ground.phase }, { on := 24, ground := Ground.phase }, { on := 25, ground := Ground.phase }, { on := 26, ground := Ground.phase }, { on := 27, ground := Ground.phase }], guard := none }) (v := ?_) rfl (by decide) (by kernel_rfl) (by kernel_rfl) (by kernel_rfl) (by rfl) ?_ ?_
          rotate_left
          · intro W; first | (go_simp; done) | (go_simp; with_reducible rfl)
          try simp only [Act.put, List.setIfInBounds_toArray, List.set_cons_zero, List.set_cons_succ]
          refine wpF_more (i := 29) (o := { dst := none, op := Op.store 36 (Operand.tmp 54) (Operand.tmp 50), type := 0, pos := "chacha.go:76", after := #[{ on := 28, ground := Ground.data }, { on := 21, ground := Ground.data }, { on := 27, ground := Ground.chain }, { on := 0, ground := Ground.phase }, { on := 1, ground := Ground.phase }, { on := 2, ground := Ground.phase }, { on := 3, ground := Ground.phase }, { on := 4, ground := Ground.phase }, { on := 5, ground := Ground.phase }, { on := 6, ground := Ground.phase }, { on := 7, ground := Ground.phase }, { on := 8, ground := Ground.phase }, { on := 9, ground := Ground.phase }, { on := 10, ground := Ground.phase }, { on := 11, ground := Ground.phase }, { on := 12, ground := Ground.phase }, { on := 13, ground := Ground.phase }, { on := 14, ground := Ground.phase }, { on := 15, ground := Ground.phase }, { on := 16, ground := Ground.phase }, { on := 17, ground := Ground.phase }, { on := 18, ground := Ground.phase }, { on := 19, ground := Ground.phase }, { on := 20, ground := Ground.phase }, { on := 21, ground := Ground.phase }, { on := 22, ground := Ground.phase }, { on := 23, ground := Ground.phase }, { on := 24, ground := Ground.phase }, { on := 25, ground := Ground.phase }, { on := 26, ground := Ground.phase }, { on := 27, ground := Ground.phase }], guard := none }) (by kernel_rfl) (by kernel_rfl) rfl (by rfl) fun K hK => ?_
          refine wp_store_at _ _ (by rfl) (by rfl) _ (by rfl) r8 (by simp only [nI_length, List.length_set]; rw [HV.out.1]; exact p3) ?_
          intro w9 r9 hw9
          rw [nI_set] at r9
          refine hK.out _ _ ?_
          clear hK K
          try simp only [Act.put, List.setIfInBounds_toArray, List.set_cons_zero, List.set_cons_succ]
          refine wpF_done (by kernel_rfl) ?_
          have hws := (((hw6.trans hw7).trans hw8).trans hw9).ofdrew
          have r10 : RowAt .u32 47 w.heap.size 16 (nI (qEi (qDbl l i) (k + 1))) w9 := by
            rw [← HNext.out]
            exact r9
          have rz10 := rz'.wrote hws (by omega)
          have hb10 := hws.below _ _ (Nat.le_refl _) hbx'
          clear ra rz' hbx' c0 c1 c2 c3 r5 r6 r7 r8 r9 hw6 hw7 hw8 hw9 hws hB
          go_wp2
          go_roundw
          case rel => exact ⟨k + 1, by omega, by go_num, r10, rz10, hb10⟩
          case measure => simp [intOf] <;> omega
        · have hke : k = 8 := by omega
          have hdk : decide ((k : Int) < 8) = false := decide_eq_false (by omega)
          have hkI : (8 : Int) ≤ (k : Int) := by omega
          have r10 : RowAt .u32 47 w.heap.size 16 (nI (qDbl l (i + 1))) wr := by
            rw [hke, qEi_eight] at ra
            exact ra
          clear ra hke
          go_wp2
          go_roundw
          case rel => exact ⟨i + 1, by omega, by go_num, r10, rz', hbx'⟩
          case measure => simp [intOf] <;> omega
    · have hie : i = 10 := by omega
      have hd : decide ((i : Int) < 10) = false := decide_eq_false (by omega)
      have hiI : (10 : Int) ≤ (i : Int) := by omega
      have hB : W16 (qDbl l 10) := qDbl_ok HW.out 10
      rw [hie] at ra
      clear hie
      obtain ⟨B, hBe⟩ : ∃ B : List Nat, B = qDbl l 10 := ⟨_, rfl⟩
      rw [← hBe] at ra hB
      have HBe : Hid _ := hBe
      clear hBe
      go_wp2_with (first | refine wpList_load_row rfl 47 _ rfl rfl ra _ Tryd.underlying47 rfl (wdInfo hB) ?_ | (refine wpList_store_row rfl 47 _ _ rfl (nI B) rfl rfl rz (by rw [z16_ok.len, hB.len]) (wdInfo z16_ok) ?_; intro w7 r7 hw7))
      refine bodyPost_row (k := .u32) rfl rfl rfl r7 Tryd.underlying47 rfl (wdInfo hB) ?_
      exact ⟨by rw [HBe.out], hw7.below _ _ (by omega) hbx⟩
end Go.Proofs.YtenljbljaffehaaDoor
