/- Numbers in three words: sums, and what bytes stand for: contracts of package poly, first part. -/
import Derived.Test.YtliiofjcghdjoaaDoorF05a
import Derived.Test.YtliiofjcghdjoaaDoorBase
import Derived.Test.YtliiofjcghdjoaaDoorWords
import Derived.Test.YtliiofjcghdjoaaDoorCut
namespace Go.Proofs.YtliiofjcghdjoaaDoor
open Go.ChangeShapes Go.WideShapes Go.ChangeAt Go.RowKit
set_option linter.unusedSimpArgs false
set_option linter.unusedVariables false

/-- Three words as a value. -/
abbrev nmV (l : List Nat) : Value := .agg ((nI l).map (Value.int .u64)).toArray
theorem nmInfo {l : List Nat} (h : Nm3 l) : (Tryd.prog.info? 124).map (·.size) = some (nI l).length := by rw [h.len]; kernel_rfl
theorem nmMax {l : List Nat} (h : Nm3 l) : (nI l).length ≤ maxLen := by rw [h.len]; decide
theorem alloc_nm (w : World) : (Instr.alloc 124 true (.tuple #[])).run Tryd.prog w = .ok (.pointer (some ⟨w.heap.size, 0, none⟩)) (w.alloc (.cells ((nI z3).map (Value.int .u64)).toArray 124)) := by kernel_rfl
/-- The machine's sum with a carry. -/
theorem add64c_run (x y c : Nat) (hx : x < 18446744073709551616) (hy : y < 18446744073709551616) (hc : c ≤ 1) : ∃ s c' : Nat, s < 18446744073709551616 ∧ c' ≤ 1 ∧ s + 18446744073709551616 * c' = x + y + c ∧
    ∀ w : World, (callFunc 89 #[.int .u64 (x : Int), .int .u64 (y : Int), .int .u64 (c : Int)]).run Tryd.prog w = .ok (.value (.tuple #[.int .u64 (s : Int), .int .u64 (c' : Int)])) w := by
  refine ⟨(x + y + c) % 18446744073709551616, (x + y + c) / 18446744073709551616, Nat.mod_lt _ (by decide), by omega, Nat.mod_add_div _ _, fun w => ?_⟩
  rw [run_callFunc_extern Tryd.func89 (by kernel_rfl) (by kernel_rfl) (by kernel_rfl) (e := add64Entry) (by kernel_rfl), run_add64 _ _ _ (by omega) (by omega) (by omega) (by omega)]
  simp only [Result.andThen]
  congr 5 <;> omega
/-- An operation that touches no memory, in a region with one order. -/
theorem wpList_val {P : Program} {ops : Array Oper} {rest : List Oper} {op : Oper} {a : Act} {w : World} {Q : Exit → Act → World → Prop} (hgd : op.guard = none) {v : Value} (hy : (execOp a.eval op).run P w = .ok (.value v) w)
    (h : wpList P ops Q rest (a.put op.dst v) w) : wpList P ops Q (op :: rest) a w := by
  refine wpList_plain hgd fun K hK => ?_
  unfold Oper.wp
  rw [hy]
  exact hK _ _ h

set_option maxRecDepth 100000 in
set_option maxHeartbeats 2000000 in
theorem plus_any (A B : Array Value) (a b : List Nat) (ha : Nm3 a) (hb : Nm3 b) (hs : wv a + wv b < 6277101735386680763835789423207666416102355444464034512896) (hA : A = ((nI a).map (Value.int .u64)).toArray) (hB : B = ((nI b).map (Value.int .u64)).toArray) (w : World) :
    Calls Tryd.prog 80 #[.agg A, .agg B] w fun e w' => ∃ r : List Nat, e = .returned (nmV r) ∧ Nm3 r ∧ wv r = wv a + wv b ∧ Below w.heap.size w w' := by
  have HSum : Hid _ := hs
  clear hs
  go_enter Tryd.func80, Tryd.ntmps80
  go_wp2_with (refine wpList_box_row (k := .u64) rfl 124 _ rfl (nI a) (by rw [← hA]; rfl) ha.ne (nmMax ha) ?_)
  intro w1 r1 b1 s1
  rw [ha.len] at r1
  go_wp2_with (refine wpList_box_row (k := .u64) rfl 124 _ rfl (nI b) (by rw [← hB]; rfl) hb.ne (nmMax hb) ?_)
  intro w2 r2 b2 s2
  rw [hb.len] at r2
  go_wp2_with (refine wpList_alloc_row (k := .u64) rfl 124 rfl (nI z3) (alloc_nm _) z3_nm.ne (nmMax z3_nm) ?_)
  intro w3 r3 b3 s3
  rw [z3_nm.len] at r3
  have hr1 := (r1.kept b2).kept b3
  have hr2 := r2.kept b3
  have hbw := stepB (stepB b1 b2) b3
  have n1 : w.heap.size < w1.heap.size := by have := s1.out; omega
  have n2 : w1.heap.size < w2.heap.size := by have := s2.out; omega
  have HA : Hid (Nm3 a) := ha
  have HB : Hid (Nm3 b) := hb
  clear r1 r2 b1 b2 b3 s1 s2 s3 hA hB ha hb
  go_wp2
  go_loopw [7, 5] (fun iv cv wx => ∃ (i o : Nat) (cur : List Nat), i ≤ 3 ∧ iv = .int .i64 (i : Int) ∧ cv = .int .u64 (o : Int) ∧ o ≤ 1 ∧ Hid (Nm3 cur) ∧ Hid (wv cur + 18446744073709551616 ^ i * o = wv a + 1 * wv (b.take i)) ∧
    RowAt .u64 124 w.heap.size 3 (nI cur) wx ∧ RowAt .u64 124 w1.heap.size 3 (nI b) wx ∧ RowAt .u64 124 w2.heap.size 3 (nI z3) wx ∧ Below w.heap.size w wx) (fun iv _ _ => 3 - (intOf iv).toNat)
  case atStart => exact ⟨0, 0, a, by omega, rfl, rfl, by omega, HA, (by show _ = _; rw [Nat.mul_zero, List.take_zero]; rfl), hr1, hr2, r3, hbw⟩
  case round =>
    obtain ⟨i, o, cur, hi, rfl, rfl, ho, HC, HE, ra, rb, rz, hbx⟩ := hrel
    clear hr1 hr2 r3 hbw
    by_cases hlt : i < 3
    · have hd : decide ((i : Int) < 3) = true := decide_eq_true (by omega)
      have hiI : (i : Int) < 3 := by omega
      have hcb := rb.cell (j := i) (by rw [nI_length, HB.out.1]; exact hlt)
      have hca := ra.cell (j := i) (by rw [nI_length, HC.out.1]; exact hlt)
      have hfa := ra.free i
      rw [nI_get] at hcb hca
      have hy := HB.out.get i
      have hq := HC.out.get i
      have HS : Hid (∀ s o' : Nat, s < 18446744073709551616 → s + 18446744073709551616 * o' = cur.getD i 0 + b.getD i 0 + o → Nm3 (cur.set i s) ∧ wv (cur.set i s) + 18446744073709551616 ^ (i + 1) * o' = wv a + 1 * wv (b.take (i + 1))) := by
        intro s o' hs he
        exact ⟨HC.out.set i hs, at_step cur b i o o' s (wv a) 1 (by rw [HC.out.1]; exact hlt) (by rw [HB.out.1]; exact hlt) (by rw [Nat.one_mul]; exact he) HE.out⟩
      have HR : Hid (∀ (W : World) (s : Nat), RowAt .u64 124 w.heap.size 3 (nI cur) W → RowAt .u64 124 w.heap.size 3 (nI (cur.set i s)) (W.setCell ⟨w.heap.size, i, none⟩ (.int .u64 (s : Int)))) := fun W s h => by
        rw [← nI_set]
        exact h.set i _
      have HRb : Hid (∀ (W : World) (u : Value), Below wr.heap.size wr W → RowAt .u64 124 w1.heap.size 3 (nI b) (W.setCell ⟨w.heap.size, i, none⟩ u) ∧ RowAt .u64 124 w2.heap.size 3 (nI z3) (W.setCell ⟨w.heap.size, i, none⟩ u) ∧ Below w.heap.size w (W.setCell ⟨w.heap.size, i, none⟩ u)) := fun W u hW =>
        ⟨(rb.kept hW).other (p := ⟨w.heap.size, i, none⟩) (by show w.heap.size ≠ _; omega) u, (rz.kept hW).other (p := ⟨w.heap.size, i, none⟩) (by show w.heap.size ≠ _; omega) u, (Wrote.set w.heap.size i W u).below _ _ (Nat.le_refl _) (stepB hbx hW)⟩
      generalize b.getD i 0 = y at hcb hy HS
      generalize cur.getD i 0 = q at hca hq HS
      obtain ⟨s2, o2, hs2, ho2, he2, run1⟩ := add64c_run q y o hq hy ho
      obtain ⟨k1, k3⟩ := HS.out s2 o2 hs2 he2
      have K1 : Hid (Nm3 (cur.set i s2)) := k1
      have K3 : Hid _ := k3
      have HRA : Hid _ := ra
      clear rb rz hbx HE k1 k3 HS he2 ra
      go_wp2_with fail
      have hB : Below wr.heap.size wr wr.drew := (Below.refl _ _).drew
      refine wpF_begin 13 (w0 := wr) (by kernel_rfl) ?_
      refine fP_ (.inr hB) 0 rfl ⟨_, by intro W; go_simp <;> with_reducible rfl, ?_⟩
      try simp only [Act.put, pA_, pB_, pC_]
      refine fP_ (.inr hB) 1 rfl ⟨_, by intro W; go_simp <;> with_reducible rfl, ?_⟩
      try simp only [Act.put, pA_, pB_, pC_]
      refine fP_ (.inr hB) 2 rfl ⟨_, by intro W; go_simp <;> with_reducible rfl, ?_⟩
      try simp only [Act.put, pA_, pB_, pC_]
      refine fU_ hB 3 rfl ⟨_, by intro W hW; have hcW := cellK hca hW; go_simp <;> with_reducible rfl, ?_⟩
      try simp only [Act.put, pA_, pB_, pC_]
      refine fP_ (.inr hB) 4 rfl ⟨_, by intro W; go_simp <;> with_reducible rfl, ?_⟩
      try simp only [Act.put, pA_, pB_, pC_]
      refine fP_ (.inr hB) 5 rfl ⟨_, by intro W; go_simp <;> with_reducible rfl, ?_⟩
      try simp only [Act.put, pA_, pB_, pC_]
      refine fU_ hB 6 rfl ⟨_, by intro W hW; have hcW := cellK hcb hW; go_simp <;> with_reducible rfl, ?_⟩
      try simp only [Act.put, pA_, pB_, pC_]
      refine fP_ (.inr hB) 7 rfl ⟨_, by intro W; go_simp <;> with_reducible rfl, ?_⟩
      try simp only [Act.put, pA_, pB_, pC_]
      refine fD_ 8 fun K hK => ?_
      go_simp
      refine hK.out _ _ (.inr hB) ?_
      clear hK K
      try simp only [Act.put, pA_, pB_, pC_]
      refine fP_ (.inr hB) 9 rfl ⟨_, by intro W; go_simp <;> with_reducible rfl, ?_⟩
      try simp only [Act.put, pA_, pB_, pC_]
      refine fP_ (.inr hB) 10 rfl ⟨_, by intro W; go_simp <;> with_reducible rfl, ?_⟩
      try simp only [Act.put, pA_, pB_, pC_]
      refine fP_ (.inr hB) 11 rfl ⟨_, by intro W; go_simp <;> with_reducible rfl, ?_⟩
      try simp only [Act.put, pA_, pB_, pC_]
      refine fP_ (.inr hB) 12 rfl ⟨_, by intro W; go_simp <;> with_reducible rfl, ?_⟩
      try simp only [Act.put, pA_, pB_, pC_]
      refine fD_ 13 fun K hK => ?_
      go_simp
      refine hK.out _ _ (.inl rfl) ?_
      clear hK K
      try simp only [Act.put, pA_, pB_, pC_]
      refine fP_ (.inl (by kernel_rfl)) 14 rfl ⟨_, by intro W; go_simp <;> with_reducible rfl, ?_⟩
      try simp only [Act.put, pA_, pB_, pC_]
      refine wpF_done (by kernel_rfl) ?_
      have hR := HR.out _ s2 HRA.out.drew
      obtain ⟨hRb, hRz, hbn⟩ := HRb.out _ (.int .u64 (s2 : Int)) hB
      go_wp2
      go_roundw
      case rel => exact ⟨i + 1, o2, cur.set i s2, by omega, by go_num, rfl, ho2, K1, K3, hR, hRb, hRz, hbn⟩
      case measure => simp [intOf] <;> omega
    · have hie : i = 3 := by omega
      have hd : decide ((i : Int) < 3) = false := decide_eq_false (by omega)
      have hiI : (3 : Int) ≤ (i : Int) := by omega
      have HE2 : Hid (wv cur = wv a + wv b) := by
        have := HE.out
        rw [hie, List.take_of_length_le (by rw [HB.out.1]; exact Nat.le_refl _), Nat.one_mul] at this
        have h2 := HSum.out
        show _ = _
        omega
      clear HE hie
      go_wp2_with (first | refine wpList_load_row rfl 124 _ rfl rfl ra _ Tryd.underlying124 rfl (nmInfo HC.out) ?_ | (refine wpList_store_row rfl 124 _ _ rfl (nI cur) rfl rfl rz (by rw [z3_nm.len, HC.out.len]) (nmInfo z3_nm) ?_; intro w6 r6 hw6))
      refine bodyPost_row (p := 4) (ty := 124) rfl rfl rfl r6 Tryd.underlying124 rfl (nmInfo HC.out) ?_
      exact ⟨cur, rfl, HC.out, HE2.out, hw6.below _ _ (by omega) hbx⟩

set_option maxRecDepth 100000 in
set_option maxHeartbeats 2000000 in
theorem numberOf_any (vb : Value) (b : List UInt8) (w : World) (hr : Rd w vb b) (hb24 : b.length ≤ 24) :
    Calls Tryd.prog 78 #[vb] w fun e w' => ∃ r : List Nat, e = .returned (nmV r) ∧ Nm3 r ∧ wv r = leN b ∧ Below w.heap.size w w' := by
  obtain ⟨ab, cb, rfl, hcb, hmb, hnone, -⟩ := id hr
  obtain ⟨L, hL⟩ : ∃ L : Nat, L = b.length := ⟨_, rfl⟩
  rw [← hL] at hcb hb24 hr ⊢
  have HRb : Hid (Rd w (.slice ab L cb) b) := hr
  have HL : Hid _ := hL
  have HN : Hid (ab = none → cb = 0) := hnone
  have HM : Hid (cb ≤ maxLen) := hmb
  have hmb2 := hmb
  unfold maxLen at hmb2
  clear hr hL hnone hmb
  go_enter Tryd.func78, Tryd.ntmps78
  go_wp2_with (refine wpList_alloc_row (k := .u64) rfl 124 rfl (nI z3) (alloc_nm _) z3_nm.ne (nmMax z3_nm) ?_)
  intro w1 r1 b1 s1
  rw [z3_nm.len] at r1
  go_wp2_with (refine wpList_alloc_row (k := .u64) rfl 124 rfl (nI z3) (alloc_nm _) z3_nm.ne (nmMax z3_nm) ?_)
  intro w2 r2 b2 s2
  rw [z3_nm.len] at r2
  have n1 : w.heap.size < w1.heap.size := by have := s1.out; omega
  replace r1 := r1.kept b2
  have hbw := stepB b1 b2
  clear b1 b2 s1 s2
  go_wp2
  go_loopw [5] (fun iv wx => ∃ (i : Nat) (cur : List Nat), i ≤ 3 ∧ iv = .int .i64 (i : Int) ∧ Hid (Nm3 cur) ∧ Hid (wv cur = leN (b.take (8 * i))) ∧ Hid (∀ j, i ≤ j → cur.getD j 0 = 0) ∧ RowAt .u64 124 w.heap.size 3 (nI z3) wx ∧ RowAt .u64 124 w1.heap.size 3 (nI cur) wx ∧ Below w.heap.size w wx) (fun iv _ => 3 - (intOf iv).toNat)
  case atStart => exact ⟨0, z3, by omega, rfl, z3_nm, (by show _ = _; rw [z3_wv]; rfl), (fun j _ => z3_get j), r1, r2, hbw⟩
  case round =>
    obtain ⟨i, cur, hi, rfl, HC, HV, HZ, rz, rc, hbx⟩ := hrel
    clear r1 r2 hbw
    by_cases hlt : i < 3
    · have hd : decide ((i : Int) < 3) = true := decide_eq_true (by omega)
      have hiI : (i : Int) < 3 := by omega
      obtain ⟨m, hm⟩ : ∃ m : Nat, m = min (8 * i) L := ⟨_, rfl⟩
      obtain ⟨ab', htail, hrest⟩ := exec_tail (ab := ab) (m := m) (by omega) hcb HM.out HN.out
      have hrd := hrest _ _ (Rd.kept HRb.out hbx)
      have hfc := rc.free i
      have hcc := rc.cell (j := i) (by rw [HC.out.len]; exact hlt)
      obtain ⟨z, hz⟩ : ∃ z : Nat, z = leN ((b.drop m).take 8) := ⟨_, rfl⟩
      have hld := load_any _ _ _ hrd
      rw [← hz] at hld
      have HLD : Hid (Calls Tryd.prog 87 #[.slice ab' (L - m) (cb - m)] wr fun e w' => e = .returned (.int .u64 (z : Int)) ∧ w' = wr) := hld
      have HS : Hid (Nm3 (cur.set i z) ∧ wv (cur.set i z) = leN (b.take (8 * (i + 1))) ∧ ∀ j, i + 1 ≤ j → (cur.set i z).getD j 0 = 0) := by
        refine ⟨HC.out.set i (by rw [hz]; exact leN_take_lt _ 8 (by omega)), num_step b cur i z (by rw [HC.out.1]; exact hlt) (HZ.out i (Nat.le_refl _)) HV.out (by rw [hz, hm, HL.out]), fun j hj => ?_⟩
        have := HZ.out j (by omega)
        rw [List.getD_eq_getElem?_getD, List.getElem?_set_ne (by omega), ← List.getD_eq_getElem?_getD]
        exact this
      have rc2 := rc.set i (z : Int)
      rw [nI_set] at rc2
      have rz2 := rz.other (p := ⟨w1.heap.size, i, none⟩) (by show w1.heap.size ≠ _; omega) (.int .u64 (z : Int))
      have hb2 := (Wrote.set w1.heap.size i wr (.int .u64 (z : Int))).below _ _ (by omega) hbx
      obtain ⟨m8, hm8⟩ : ∃ m : Nat, m = 8 * i := ⟨_, rfl⟩
      have x1 : IntKind.i64.wrap (8 * (i : Int)) = (m8 : Int) := by rw [show 8 * (i : Int) = (m8 : Int) by omega]; exact IntWalk.i64_in _ (by omega)
      have hmin : (if L < m8 then (L : Int) else (m8 : Int)) = (m : Int) := by split <;> omega
      have HT : Hid _ := @htail
      clear hz hld hrest hrd rz rc hbx HV HZ hm hm8 htail
      go_wp2_with (refine wpList_val rfl (HT.out _ _ rfl rfl rfl) ?_)
      refine Calls.mono HLD.out ?_
      rintro e w5 ⟨rfl, rfl⟩
      go_wp2
      go_roundw
      case rel => exact ⟨i + 1, cur.set i z, by omega, by go_num, HS.out.1, HS.out.2.1, HS.out.2.2, rz2, rc2, hb2⟩
      case measure => simp [intOf] <;> omega
    · have hie : i = 3 := by omega
      have hd : decide ((i : Int) < 3) = false := decide_eq_false (by omega)
      have hiI : (3 : Int) ≤ (i : Int) := by omega
      have HE2 : Hid (wv cur = leN b) := num_full b cur (by rw [HV.out, hie]) (by rw [← HL.out]; exact hb24)
      clear HV hie
      go_wp2_with (first | refine wpList_load_row rfl 124 _ rfl rfl rc _ Tryd.underlying124 rfl (nmInfo HC.out) ?_ | (refine wpList_store_row rfl 124 _ _ rfl (nI cur) rfl rfl rz (by rw [z3_nm.len, HC.out.len]) (nmInfo z3_nm) ?_; intro w6 r6 hw6))
      refine bodyPost_row (p := 2) (ty := 124) rfl rfl rfl r6 Tryd.underlying124 rfl (nmInfo HC.out) ?_
      exact ⟨cur, rfl, HC.out, HE2.out, hw6.below _ _ (by omega) hbx⟩
end Go.Proofs.YtliiofjcghdjoaaDoor
