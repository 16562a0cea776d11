/- What a product stands for, and the number below the prime: contracts of package poly, third part. -/
import Derived.Test.YtliiofjcghdjoaaDoorP08b
import Derived.Test.YtliiofjcghdjoaaDoorBase
namespace Go.Proofs.YtliiofjcghdjoaaDoor
open Go.ChangeShapes Go.WideShapes Go.ChangeAt Go.RowKit
set_option linter.unusedSimpArgs false
set_option linter.unusedVariables false

theorem wdInfo5 {l : List Nat} (h : Wd5 l) : (Tryd.prog.info? 139).map (·.size) = some (nI l).length := by rw [h.len]; kernel_rfl
theorem wdMax5 {l : List Nat} (h : Wd5 l) : (nI l).length ≤ maxLen := by rw [h.len]; decide
theorem alloc_wd5 (w : World) : (Instr.alloc 139 true (.tuple #[])).run Tryd.prog w = .ok (.pointer (some ⟨w.heap.size, 0, none⟩)) (w.alloc (.cells ((nI z5).map (Value.int .u64)).toArray 139)) := by kernel_rfl
/-- A word is stored into a row. -/
theorem wp_store_u64 {e : TypeId} {g cap j : Nat} {l : List Int} {w : World} {op : Oper} {a : Act} {K : Act → World → Prop} {Q : Exit → Act → World → Prop} (x y : Operand) (ho : op.op = .store 22 x y) (hx : a.eval x = .pointer (some ⟨g, j, none⟩)) (X : Int) (hy : a.eval y = .int .u64 X)
    (hr : RowAt .u64 e g cap l w) (hj : j < l.length)
    (h : ∀ w', RowAt .u64 e g cap (l.set j X) w' → Wrote g w w' → K (a.put op.dst undef) w') : op.wp Tryd.prog a w K Q := by
  have hc := hr.cell hj
  have hf := hr.free j
  have h2 := h _ (hr.set j X) (Wrote.set g j w _)
  unfold Oper.wp execOp
  simp only [ho, hx, hy]
  go_simp
  exact h2

set_option maxRecDepth 100000 in
set_option maxHeartbeats 4000000 in
theorem ptimes_any (A B : Array Value) (a r : List Nat) (ha : Nm3 a) (hr : Nm3 r) (hr2 : wv r < 340282366920938463463374607431768211456) (hb : wv a * wv r < 57896044618658097711785492504343953926634992332820282019728792003956564819968) (hA : A = ((nI a).map (Value.int .u64)).toArray) (hB : B = ((nI r).map (Value.int .u64)).toArray) (w : World) :
    Calls Tryd.prog 82 #[.agg A, .agg B] w fun e w' => ∃ x : List Nat, e = .returned (nmV x) ∧ Nm3 x ∧ wv x = fold8 (wv a * wv r) ∧ Below w.heap.size w w' := by
  have HBd : Hid _ := hb
  have HR2 : Hid _ := hr2
  clear hb hr2
  go_enter Tryd.func82, Tryd.ntmps82
  go_wp2_with (refine wpList_box_row (k := .u64) rfl 124 _ rfl (nI a) (by rw [← hA]; rfl) ha.ne (nmMax ha) ?_)
  intro w1 r1 b1 s1
  rw [ha.len] at r1
  go_wp2_with (refine wpList_box_row (k := .u64) rfl 124 _ rfl (nI r) (by rw [← hB]; rfl) hr.ne (nmMax hr) ?_)
  intro w2 r2 b2 s2
  rw [hr.len] at r2
  go_wp2_with (refine wpList_alloc_row (k := .u64) rfl 124 rfl (nI z3) (alloc_nm _) z3_nm.ne (nmMax z3_nm) ?_)
  intro w3 r3 b3 s3
  rw [z3_nm.len] at r3
  go_wp2_with (refine wpList_alloc_row (k := .u64) rfl 139 rfl (nI z5) (alloc_wd5 _) z5_wd.ne (wdMax5 z5_wd) ?_)
  intro w4 r4 b4 s4
  rw [z5_wd.len] at r4
  have hr1 := ((r1.kept b2).kept b3).kept b4
  have hr2 := (r2.kept b3).kept b4
  have hr3 := r3.kept b4
  have hbw := stepB (stepB (stepB b1 b2) b3) b4
  have n1 : w.heap.size < w1.heap.size := by have := s1.out; omega
  have n2 : w1.heap.size < w2.heap.size := by have := s2.out; omega
  have n3 : w2.heap.size < w3.heap.size := by have := s3.out; omega
  have HA : Hid (Nm3 a) := ha
  have HR : Hid (Nm3 r) := hr
  clear r1 r2 r3 b1 b2 b3 b4 s1 s2 s3 s4 hA hB ha hr
  go_wp2
  go_loopw [10] (fun iv wx => ∃ (i : Nat) (cur : List Nat), i ≤ 2 ∧ iv = .int .i64 (i : Int) ∧ Hid (Wd5 cur) ∧ Hid (∀ j, 3 + i ≤ j → cur.getD j 0 = 0) ∧ Hid (wv cur = wv (r.take i) * wv a) ∧
    RowAt .u64 124 w.heap.size 3 (nI a) wx ∧ RowAt .u64 124 w1.heap.size 3 (nI r) wx ∧ RowAt .u64 124 w2.heap.size 3 (nI z3) wx ∧ RowAt .u64 139 w3.heap.size 5 (nI cur) wx ∧ Below w.heap.size w wx) (fun iv _ => 2 - (intOf iv).toNat)
  case atStart => exact ⟨0, z5, by omega, rfl, z5_wd, (fun j _ => z5_get j), (by show _ = _; rw [z5_wv, List.take_zero]; exact (Nat.zero_mul _).symm), hr1, hr2, hr3, r4, hbw⟩
  case round =>
    obtain ⟨i, cur, hi, rfl, HC, HZ, HE, ra, rr, rz, rc, hbx⟩ := hrel
    clear hr1 hr2 hr3 r4 hbw
    by_cases hlt : i < 2
    · have hd : decide ((i : Int) < 2) = true := decide_eq_true (by omega)
      have hiI : (i : Int) < 2 := by omega
      have hq := HR.out.get i
      have HS : Hid (∀ (x : List Nat) (q : Nat), q < 18446744073709551616 → Wd5 x → (∀ j, i + 3 ≤ j → x.getD j 0 = cur.getD j 0) → wv x + 18446744073709551616 ^ (i + 3) * q = wv cur + 18446744073709551616 ^ i * (r.getD i 0 * wv a) →
          Wd5 (x.set (3 + i) q) ∧ (∀ j, 3 + (i + 1) ≤ j → (x.set (3 + i) q).getD j 0 = 0) ∧ wv (x.set (3 + i) q) = wv (r.take (i + 1)) * wv a) := by
        intro x q hql hx hj he
        refine ⟨hx.set _ hql, fun j h => ?_, row_step x r i q 0 (wv cur) (wv a) (by rw [hx.1]; omega) (by rw [HR.out.1]; omega) (by rw [hj _ (by omega)]; exact HZ.out _ (Nat.le_refl _)) HE.out he⟩
        rw [getD_set8 _ _ _ _ (by omega), hj j (by omega)]
        exact HZ.out j (by omega)
      obtain ⟨y, hy⟩ : ∃ y : Nat, y = r.getD i 0 := ⟨_, rfl⟩
      rw [← hy] at hq HS
      have HY : Hid _ := hy
      obtain ⟨i3, hi3⟩ : ∃ n : Nat, n = 3 + i := ⟨_, rfl⟩
      have x1 : IntKind.i64.wrap (3 + (i : Int)) = (i3 : Int) := by rw [show 3 + (i : Int) = (i3 : Int) by omega]; exact IntWalk.i64_in _ (by omega)
      have HI3 : Hid _ := hi3
      have y1 : (i : Int) ≤ (i3 : Int) := by omega
      have y2 : (i3 : Int) ≤ 5 := by omega
      have y3 : (i3 : Int) < 5 := by omega
      have y4 : i3 - i = 3 := by omega
      have y5 : i ≤ i3 := by omega
      have y6 : ¬ (5 : Nat) = i := by omega
      have y7 : i ≤ 5 := by omega
      have y8 : (i : Int) < 3 := by omega
      have hS : RowAt .u64 124 w1.heap.size 3 (nI r) wr.drew ∧ RowAt .u64 124 w.heap.size 3 (nI a) wr.drew := ⟨rr.drew, ra.drew⟩
      replace rz := rz.drew
      replace rc := rc.drew
      replace hbx := hbx.drew
      clear ra rr hy hi3 HE HZ
      go_wp2_with fail
      refine wpS_begin (fun W => RowAt .u64 124 w1.heap.size 3 (nI r) W ∧ RowAt .u64 124 w.heap.size 3 (nI a) W) (by kernel_rfl) ?_
      refine sU_ hS 0 rfl ⟨_, by intro W hW; go_simp <;> with_reducible rfl, ?_⟩
      try simp only [Act.put, pA_, pB_, pC_]
      refine sU_ hS 1 rfl ⟨_, by intro W hW; go_simp <;> with_reducible rfl, ?_⟩
      try simp only [Act.put, pA_, pB_, pC_]
      refine sU_ hS 2 rfl ⟨_, by intro W hW; go_simp <;> with_reducible rfl, ?_⟩
      try simp only [Act.put, pA_, pB_, pC_]
      refine sU_ hS 3 rfl ⟨_, by intro W hW; go_simp <;> with_reducible rfl, ?_⟩
      try simp only [Act.put, pA_, pB_, pC_]
      refine sU_ hS 4 rfl ⟨_, by intro W hW; go_simp <;> with_reducible rfl, ?_⟩
      try simp only [Act.put, pA_, pB_, pC_]
      refine sU_ hS 5 rfl ⟨_, by intro W hW; go_simp <;> with_reducible rfl, ?_⟩
      try simp only [Act.put, pA_, pB_, pC_]
      refine sU_ hS 6 rfl ⟨_, by intro W hW; go_simp <;> with_reducible rfl, ?_⟩
      try simp only [Act.put, pA_, pB_, pC_]
      refine sU_ hS 7 rfl ⟨_, by intro W hW; go_simp <;> with_reducible rfl, ?_⟩
      try simp only [Act.put, pA_, pB_, pC_]
      refine sU_ hS 8 rfl ⟨_, by intro W hW; have hcW := hW.1.cell (j := i) (by rw [HR.out.len]; omega); rw [nI_get, ← HY.out] at hcW; go_simp <;> with_reducible rfl, ?_⟩
      try simp only [Act.put, pA_, pB_, pC_]
      refine sU_ hS 9 rfl ⟨_, by intro W hW; refine Eq.trans (exec_load_row' 124 _ (by rfl) (by rfl) hW.2 (Below.refl _ _) _ Tryd.underlying124 rfl (nmInfo HA.out)) ?_; with_reducible rfl, ?_⟩
      try simp only [Act.put, pA_, pB_, pC_]
      refine sD_ 10 fun K hK => ?_
      go_simp
      refine (paddTimes_any _ i _ cur a y _ (by omega) HC.out HA.out hq rfl rfl _ (by omega) _ rc).mono ?_
      rintro e w5 ⟨x, q, rfl, hql, hx, hj, he, rc5, hc5⟩
      obtain ⟨k1, k2, k3⟩ := HS.out x q hql hx hj he
      replace hS := And.intro (hS.1.chg hc5 (by omega)) (hS.2.chg hc5 (by omega))
      replace rz := rz.chg hc5 (by omega)
      replace hbx := Chg.below hbx hc5 (by have := hbx.size; show w.heap.size ≤ wr.heap.size; exact this) (fun k _ e => by omega)
      refine hK.out _ _ hS ?_
      clear hK K
      try simp only [Act.put, pA_, pB_, pC_]
      refine sU_ hS 11 rfl ⟨_, by intro W hW; go_simp <;> with_reducible rfl, ?_⟩
      try simp only [Act.put, pA_, pB_, pC_]
      refine sD_ 12 fun K hK => ?_
      refine wp_store_u64 _ _ (by rfl) (by rfl) (q : Int) (by rfl) rc5 (by rw [hx.len]; have := HI3.out; omega) ?_
      intro w6 rc6 hw6
      rw [nI_set, HI3.out] at rc6
      replace hS := And.intro (hS.1.wrote hw6 (by omega)) (hS.2.wrote hw6 (by omega))
      replace rz := rz.wrote hw6 (by omega)
      replace hbx := hw6.below _ _ (by omega) hbx
      refine hK.out _ _ hS ?_
      clear hK K
      try simp only [Act.put, pA_, pB_, pC_]
      refine wpS_done (by kernel_rfl) ?_
      have K1 : Hid (Wd5 (x.set (3 + i) q)) := k1
      have K2 : Hid (∀ j, 3 + (i + 1) ≤ j → (x.set (3 + i) q).getD j 0 = 0) := k2
      have K3 : Hid _ := k3
      clear k1 k2 k3 hj he HS rc rc5 hc5 hw6
      go_wp2
      go_roundw
      case rel => exact ⟨i + 1, x.set (3 + i) q, by omega, by go_num, K1, K2, K3, hS.2, hS.1, rz, rc6, hbx⟩
      case measure => simp [intOf] <;> omega
    · have hie : i = 2 := by omega
      have hd : decide ((i : Int) < 2) = false := decide_eq_false (by omega)
      have hiI : (2 : Int) ≤ (i : Int) := by omega
      have hW : wv cur = wv a * wv r := by
        rw [HE.out, hie, two_words HR.out HR2.out, Nat.mul_comm]
      obtain ⟨d0, d1, d2, d3, d4, hcur, l0, l1, l2, l3, l4⟩ := HC.out.five
      rw [hcur] at rc hW
      have HSum := times_sum d0 d1 d2 d3 d4 l0 l1 l2 l3 (by rw [hW]; exact HBd.out)
      rw [hW] at HSum
      have k0 := rc.cell (j := 0) (by simp [nI])
      have k1 := rc.cell (j := 1) (by simp [nI])
      have k2 := rc.cell (j := 2) (by simp [nI])
      have k3 := rc.cell (j := 3) (by simp [nI])
      rw [nI_get] at k0 k1 k2 k3
      simp only [List.getD_cons_zero, List.getD_cons_succ] at k0 k1 k2 k3
      have m1 := mask3 d2 l2
      have m2 := unmask3 d2 l2
      have m3 := or_parts (d2 / 4) (d3 % 4) (by omega) (by omega)
      have e1 : (d2 : Int) / 4 = ((d2 / 4 : Nat) : Int) := by omega
      have e2 : (d3 : Int) / 4 = ((d3 / 4 : Nat) : Int) := by omega
      have e3 : IntKind.u64.wrap ((d3 : Int) * 4611686018427387904) = ((4611686018427387904 * (d3 % 4) : Nat) : Int) := by rw [IntKind.wrap_u64]; omega
      have q1 : d2 % 4 < 18446744073709551616 := by omega
      have q2 : d2 - d2 % 4 < 18446744073709551616 := by omega
      have q3 : d2 / 4 + 4611686018427387904 * (d3 % 4) < 18446744073709551616 := by omega
      have q4 : d3 / 4 < 18446744073709551616 := by omega
      generalize d2 / 4 + 4611686018427387904 * (d3 % 4) = t3 at m3 HSum q3
      generalize 4611686018427387904 * (d3 % 4) = t2 at m3 e3
      generalize d2 - d2 % 4 = t1 at m2 HSum q2
      generalize d2 % 4 = t0 at m1 HSum q1
      generalize d2 / 4 = t5 at m3 e1
      generalize d3 / 4 = t4 at e2 HSum q4
      have HS : Hid _ := HSum
      have hg := rc.lt
      have v7 : Nm3 [d0, d1, t0] := Nm3.mk3 l0 l1 q1
      have v8 : Nm3 [t1, d3, 0] := Nm3.mk3 q2 l3 (by decide)
      have v9 : Nm3 [t3, t4, 0] := Nm3.mk3 q3 q4 (by decide)
      have V7 : Hid (Nm3 [d0, d1, t0]) := v7
      have V8 : Hid (Nm3 [t1, d3, 0]) := v8
      have V9 : Hid (Nm3 [t3, t4, 0]) := v9
      clear HSum hW HE HZ hie HC hcur l0 l1 l2 l3 l4 q1 q2 q3 q4 v7 v8 v9 ra rr
      go_wp2_with (refine wpList_alloc_row (k := .u64) rfl 124 rfl (nI z3) (alloc_nm _) z3_nm.ne (nmMax z3_nm) ?_)
      intro w5 r5 b5 s5
      rw [z3_nm.len] at r5
      have n5 : wr.heap.size < w5.heap.size := by have := s5.out; omega
      clear k0 k1 k2 k3
      go_wp2_with (refine wpList_store_row rfl 124 _ _ rfl (nI [d0, d1, t0]) rfl rfl r5 (by rw [z3_nm.len, V7.out.len]) (nmInfo z3_nm) ?_)
      intro w6 r7 hw6
      replace rc := (rc.kept b5).wrote hw6 (by omega)
      replace rz := (rz.kept b5).wrote hw6 (by omega)
      replace hbx := hw6.below _ _ (by omega) (stepB hbx b5)
      have n6 : wr.heap.size < w6.heap.size := by have := hw6.size; omega
      have k2 := rc.cell (j := 2) (by simp [nI])
      have k3 := rc.cell (j := 3) (by simp [nI])
      rw [nI_get] at k2 k3
      simp only [List.getD_cons_zero, List.getD_cons_succ] at k2 k3
      clear r5 b5 s5 hw6
      go_wp2_with (refine wpList_alloc_row (k := .u64) rfl 124 rfl (nI z3) (alloc_nm _) z3_nm.ne (nmMax z3_nm) ?_)
      intro w8 r5 b5 s5
      rw [z3_nm.len] at r5
      have n8 : w6.heap.size < w8.heap.size := by have := s5.out; omega
      clear k2 k3
      go_wp2_with (refine wpList_store_row rfl 124 _ _ rfl (nI [t1, d3, 0]) rfl rfl r5 (by rw [z3_nm.len, V8.out.len]) (nmInfo z3_nm) ?_)
      intro w9 r8 hw6
      replace rc := (rc.kept b5).wrote hw6 (by omega)
      replace rz := (rz.kept b5).wrote hw6 (by omega)
      replace r7 := (r7.kept b5).wrote hw6 (by omega)
      replace hbx := hw6.below _ _ (by omega) (stepB hbx b5)
      have n9 : w6.heap.size < w9.heap.size := by have := hw6.size; omega
      have k2 := rc.cell (j := 2) (by simp [nI])
      have k3 := rc.cell (j := 3) (by simp [nI])
      rw [nI_get] at k2 k3
      simp only [List.getD_cons_zero, List.getD_cons_succ] at k2 k3
      clear r5 b5 s5 hw6
      go_wp2_with (refine wpList_alloc_row (k := .u64) rfl 124 rfl (nI z3) (alloc_nm _) z3_nm.ne (nmMax z3_nm) ?_)
      intro w10 r5 b5 s5
      rw [z3_nm.len] at r5
      have n10 : w9.heap.size < w10.heap.size := by have := s5.out; omega
      clear k2 k3
      go_wp2_with (refine wpList_store_row rfl 124 _ _ rfl (nI [t3, t4, 0]) rfl rfl r5 (by rw [z3_nm.len, V9.out.len]) (nmInfo z3_nm) ?_)
      intro w11 r9 hw6
      replace rz := (rz.kept b5).wrote hw6 (by omega)
      replace r7 := (r7.kept b5).wrote hw6 (by omega)
      replace r8 := (r8.kept b5).wrote hw6 (by omega)
      replace hbx := hw6.below _ _ (by omega) (stepB hbx b5)
      clear r5 b5 s5 hw6 rc m1 m2 m3 e1 e2 e3
      go_wp2_with fail
      refine wpE_begin 5 (by kernel_rfl) ?_
      refine eU_ 0 rfl ⟨_, by intro W hW; refine Eq.trans (exec_load_row 124 _ (by rfl) (by rfl) r7 hW _ Tryd.underlying124 rfl (nmInfo V7.out)) ?_; with_reducible rfl, ?_⟩
      try simp only [Act.put, pA_, pB_, pC_]
      refine eU_ 1 rfl ⟨_, by intro W hW; refine Eq.trans (exec_load_row 124 _ (by rfl) (by rfl) r8 hW _ Tryd.underlying124 rfl (nmInfo V8.out)) ?_; with_reducible rfl, ?_⟩
      try simp only [Act.put, pA_, pB_, pC_]
      refine eU_ 3 rfl ⟨_, by intro W hW; refine Eq.trans (exec_load_row 124 _ (by rfl) (by rfl) r9 hW _ Tryd.underlying124 rfl (nmInfo V9.out)) ?_; with_reducible rfl, ?_⟩
      try simp only [Act.put, pA_, pB_, pC_]
      refine eD_ 2 fun K hK => ?_
      go_simp
      refine (plus_any _ _ [d0, d1, t0] [t1, d3, 0] V7.out V8.out HS.out.2.1 rfl rfl _).mono ?_
      rintro e wq ⟨x1, rfl, hx1, hv1, bq⟩
      refine hK.out _ _ bq ?_
      clear hK K
      try simp only [Act.put, pA_, pB_, pC_]
      refine eD_ 4 fun K hK => ?_
      go_simp
      refine (plus_any _ _ x1 [t3, t4, 0] hx1 V9.out (by rw [hv1, HS.out.1]; have := HS.out.2.2; omega) rfl rfl _).mono ?_
      rintro e wm ⟨x2, rfl, hx2, hv2, bm⟩
      rw [hv1, HS.out.1] at hv2
      refine hK.out _ _ bm ?_
      clear hK K
      try simp only [Act.put, pA_, pB_, pC_]
      refine eL_ fun K hK => ?_
      refine wp_store_row 124 _ _ rfl (nI x2) rfl rfl ((rz.drew.kept bq).kept bm) (by rw [z3_nm.len, hx2.len]) (nmInfo z3_nm) ?_
      intro wS rS hwS
      refine hK.out _ _ ?_
      clear hK K
      try simp only [Act.put, pA_, pB_, pC_]
      go_wp2_with fail
      refine bodyPost_row (p := 4) (ty := 124) rfl rfl rfl rS Tryd.underlying124 rfl (nmInfo hx2) ?_
      exact ⟨x2, rfl, hx2, hv2, hwS.below _ _ (by omega) (stepB (stepB hbx.drew bq) bm)⟩

set_option maxRecDepth 100000 in
set_option maxHeartbeats 4000000 in
theorem prest_any (A : Array Value) (a : List Nat) (ha : Nm3 a) (hb : wv a < 1701411834604692317316873037158841057280) (hA : A = ((nI a).map (Value.int .u64)).toArray) (w : World) :
    Calls Tryd.prog 83 #[.agg A] w fun e w' => ∃ x : List Nat, e = .returned (nmV x) ∧ Nm3 x ∧ wv x = wv a % p8 ∧ Below w.heap.size w w' := by
  have HBd : Hid _ := hb
  clear hb
  go_enter Tryd.func83, Tryd.ntmps83
  go_wp2_with (refine wpList_box_row (k := .u64) rfl 124 _ rfl (nI a) (by rw [← hA]; rfl) ha.ne (nmMax ha) ?_)
  intro w1 r1 b1 s1
  rw [ha.len] at r1
  go_wp2_with (refine wpList_alloc_row (k := .u64) rfl 124 rfl (nI z3) (alloc_nm _) z3_nm.ne (nmMax z3_nm) ?_)
  intro w2 r2 b2 s2
  rw [z3_nm.len] at r2
  replace r1 := r1.kept b2
  have hbw := stepB b1 b2
  have n1 : w.heap.size < w1.heap.size := by have := s1.out; omega
  have n2 : w1.heap.size < w2.heap.size := by have := s2.out; omega
  have HA : Hid (Nm3 a) := ha
  clear b1 b2 s1 s2 hA ha
  go_wp2_with (refine wpList_load_row rfl 124 _ rfl rfl r1 _ Tryd.underlying124 rfl (nmInfo HA.out) ?_)
  refine (plus_any _ _ a [5, 0, 0] HA.out (Nm3.mk3 (by decide) (by decide) (by decide)) (by have := HBd.out; simp only [wv] at this ⊢; omega) rfl rfl _).mono ?_
  rintro e w3 ⟨x, rfl, hx, hv, b3⟩
  have hv5 : wv x = wv a + 5 := hv
  replace r1 := r1.kept b3
  replace r2 := r2.kept b3
  replace hbw := stepB hbw b3
  have n3 := b3.size
  clear b3 hv
  go_wp2_with (refine wpList_alloc_row (k := .u64) rfl 124 rfl (nI z3) (alloc_nm _) z3_nm.ne (nmMax z3_nm) ?_)
  intro w4 r4 b4 s4
  rw [z3_nm.len] at r4
  replace r1 := r1.kept b4
  replace r2 := r2.kept b4
  replace hbw := stepB hbw b4
  clear b4 s4
  go_wp2_with (refine wpList_store_row rfl 124 _ _ rfl (nI x) rfl rfl r4 (by rw [z3_nm.len, hx.len]) (nmInfo z3_nm) ?_)
  intro w5 r5 hw5
  replace r1 := r1.wrote hw5 (by omega)
  replace r2 := r2.wrote hw5 (by omega)
  replace hbw := hw5.below _ _ (by omega) hbw
  clear r4 hw5
  obtain ⟨x0, x1, x2, hxe, l0, l1, l2⟩ := hx.three
  subst hxe
  obtain ⟨t1, t2⟩ := rest8_top x0 x1 x2 l0 l1
  have hr8 := rest8 (wv a) _ HBd.out hv5
  rw [← t1, ← t2] at hr8
  have k2 := r5.cell (j := 2) (by simp [nI])
  have f2 := r5.free 2
  rw [nI_get] at k2
  simp only [List.getD_cons_zero, List.getD_cons_succ] at k2
  have m1 := mask3 x2 l2
  have e1 : (x2 : Int) / 4 = ((x2 / 4 : Nat) : Int) := by omega
  have q1 : x2 % 4 < 18446744073709551616 := by omega
  have r6 := r5.set 2 ((x2 % 4 : Nat) : Int)
  rw [nI_set] at r6
  have r1' := r1.other (p := ⟨w3.heap.size, 2, none⟩) (by show w3.heap.size ≠ _; omega) (.int .u64 ((x2 % 4 : Nat) : Int))
  have r2' := r2.other (p := ⟨w3.heap.size, 2, none⟩) (by show w3.heap.size ≠ _; omega) (.int .u64 ((x2 % 4 : Nat) : Int))
  have hbw' := (Wrote.set w3.heap.size 2 w5 (.int .u64 ((x2 % 4 : Nat) : Int))).below _ _ (by omega) hbw
  simp only [List.set_cons_succ, List.set_cons_zero] at r6
  have hX : Nm3 [x0, x1, x2 % 4] := Nm3.mk3 l0 l1 q1
  have HX : Hid (Nm3 [x0, x1, x2 % 4]) := hX
  obtain ⟨M, Y, hY, HYv, HM, hneg⟩ : ∃ (M : Int) (Y : List Nat), Nm3 Y ∧ Hid (wv Y = wv a % p8) ∧ Hid ((M = 0 ∧ Y = a) ∨ (M = 18446744073709551615 ∧ Y = [x0, x1, x2 % 4])) ∧ IntKind.u64.wrap (-((x2 / 4 : Nat) : Int)) = M := by
    rcases hr8 with ⟨h1, h2⟩ | ⟨h1, h2⟩
    · exact ⟨0, a, HA.out, h2.symm, .inl ⟨rfl, rfl⟩, by rw [h1]; decide⟩
    · exact ⟨18446744073709551615, _, hX, h2.symm, .inr ⟨rfl, rfl⟩, by rw [h1]; decide⟩
  have HY : Hid (Nm3 Y) := hY
  generalize x2 % 4 = t0 at m1 r6 r1' r2' hbw' HX HM
  generalize x2 / 4 = t3 at e1 hneg
  have R6 : Hid _ := r6
  have R1 : Hid _ := r1'
  have R2 : Hid _ := r2'
  have HBW : Hid _ := hbw'
  clear r1 r2 r5 r6 r1' r2' hbw hbw' hr8 t1 t2 hX hY q1 l0 l1 l2 hv5 hx
  have HW : Hid (∀ i, bits .xor .u64 ((a.getD i 0 : Nat) : Int) (bits .and .u64 M (bits .xor .u64 ((a.getD i 0 : Nat) : Int) (([x0, x1, t0].getD i 0 : Nat) : Int))) = ((Y.getD i 0 : Nat) : Int)) := fun i => by
    refine sel8 M _ _ _ (HA.out.get i) (HX.out.get i) ?_
    rcases HM.out with ⟨h1, h2⟩ | ⟨h1, h2⟩
    · exact .inl ⟨h1, by rw [h2]⟩
    · exact .inr ⟨h1, by rw [h2]⟩
  clear HM
  generalize [x0, x1, t0] = X at R6 HX HW
  go_wp2
  go_loopw [17] (fun iv wx => ∃ (i : Nat), i ≤ 3 ∧ iv = .int .i64 (i : Int) ∧ RowAt .u64 124 w.heap.size 3 (nI (mxL Y a i)) wx ∧ RowAt .u64 124 w1.heap.size 3 (nI z3) wx ∧ RowAt .u64 124 w3.heap.size 3 (nI X) wx ∧ Below w.heap.size w wx) (fun iv _ => 3 - (intOf iv).toNat)
  case atStart => exact ⟨0, by omega, rfl, by rw [mxL_zero]; exact R1.out, R2.out, R6.out, HBW.out⟩
  case round =>
    obtain ⟨i, hi, rfl, ra, rz, rx, hbx⟩ := hrel
    clear R1 R2 R6 HBW
    by_cases hlt : i < 3
    · have hd : decide ((i : Int) < 3) = true := decide_eq_true (by omega)
      have hiI : (i : Int) < 3 := by omega
      have hca := ra.cell (j := i) (by rw [mxL_len HY.out.1 HA.out.1 i hi]; exact hlt)
      have hcx := rx.cell (j := i) (by rw [HX.out.len]; exact hlt)
      have hfa := ra.free i
      rw [nI_get, mxL_get HY.out.1 i hlt] at hca
      rw [nI_get] at hcx
      have hwi := HW.out i
      have HR : Hid (∀ W : World, Below wr.heap.size wr W → RowAt .u64 124 w.heap.size 3 (nI (mxL Y a (i + 1))) (W.setCell ⟨w.heap.size, i, none⟩ (.int .u64 ((Y.getD i 0 : Nat) : Int))) ∧
          RowAt .u64 124 w1.heap.size 3 (nI z3) (W.setCell ⟨w.heap.size, i, none⟩ (.int .u64 ((Y.getD i 0 : Nat) : Int))) ∧
          RowAt .u64 124 w3.heap.size 3 (nI X) (W.setCell ⟨w.heap.size, i, none⟩ (.int .u64 ((Y.getD i 0 : Nat) : Int))) ∧
          Below w.heap.size w (W.setCell ⟨w.heap.size, i, none⟩ (.int .u64 ((Y.getD i 0 : Nat) : Int)))) := by
        intro W hW
        refine ⟨?_, ?_, ?_, ?_⟩
        · have h1 := (ra.kept hW).set i ((Y.getD i 0 : Nat) : Int)
          rw [nI_set, mxL_set HY.out.1 HA.out.1 i hlt] at h1
          exact h1
        · exact (rz.kept hW).other (p := ⟨w.heap.size, i, none⟩) (by show w.heap.size ≠ _; omega) _
        · exact (rx.kept hW).other (p := ⟨w.heap.size, i, none⟩) (by show w.heap.size ≠ _; omega) _
        · exact (Wrote.set w.heap.size i _ _).below _ _ (Nat.le_refl _) (stepB hbx hW)
      generalize a.getD i 0 = p at hca hwi
      generalize X.getD i 0 = q at hcx hwi
      generalize Y.getD i 0 = p' at HR hwi
      clear ra rz rx hbx
      go_wp2_with fail
      have hB : Below wr.heap.size wr wr.drew := (Below.refl _ _).drew
      refine wpF_begin 14 (w0 := wr) (by kernel_rfl) ?_
      refine fP_ (.inr hB) 0 rfl ⟨_, by intro W; go_simp <;> with_reducible rfl, ?_⟩
      try simp only [Act.put, pA_, pB_, pC_]
      refine fP_ (.inr hB) 1 rfl ⟨_, by intro W; go_simp <;> with_reducible rfl, ?_⟩
      try simp only [Act.put, pA_, pB_, pC_]
      refine fU_ hB 2 rfl ⟨_, by intro W hW; have hcW := cellK hca hW; go_simp <;> with_reducible rfl, ?_⟩
      try simp only [Act.put, pA_, pB_, pC_]
      refine fP_ (.inr hB) 3 rfl ⟨_, by intro W; go_simp <;> with_reducible rfl, ?_⟩
      try simp only [Act.put, pA_, pB_, pC_]
      refine fP_ (.inr hB) 4 rfl ⟨_, by intro W; go_simp <;> with_reducible rfl, ?_⟩
      try simp only [Act.put, pA_, pB_, pC_]
      refine fP_ (.inr hB) 5 rfl ⟨_, by intro W; go_simp <;> with_reducible rfl, ?_⟩
      try simp only [Act.put, pA_, pB_, pC_]
      refine fU_ hB 6 rfl ⟨_, by intro W hW; have hcW := cellK hca hW; go_simp <;> with_reducible rfl, ?_⟩
      try simp only [Act.put, pA_, pB_, pC_]
      refine fP_ (.inr hB) 7 rfl ⟨_, by intro W; go_simp <;> with_reducible rfl, ?_⟩
      try simp only [Act.put, pA_, pB_, pC_]
      refine fP_ (.inr hB) 8 rfl ⟨_, by intro W; go_simp <;> with_reducible rfl, ?_⟩
      try simp only [Act.put, pA_, pB_, pC_]
      refine fU_ hB 9 rfl ⟨_, by intro W hW; have hcW := cellK hcx hW; go_simp <;> with_reducible rfl, ?_⟩
      try simp only [Act.put, pA_, pB_, pC_]
      refine fP_ (.inr hB) 10 rfl ⟨_, by intro W; go_simp <;> with_reducible rfl, ?_⟩
      try simp only [Act.put, pA_, pB_, pC_]
      refine fP_ (.inr hB) 11 rfl ⟨_, by intro W; go_simp <;> with_reducible rfl, ?_⟩
      try simp only [Act.put, pA_, pB_, pC_]
      refine fP_ (.inr hB) 12 rfl ⟨_, by intro W; go_simp <;> with_reducible rfl, ?_⟩
      try simp only [Act.put, pA_, pB_, pC_]
      refine fP_ (.inr hB) 13 rfl ⟨_, by intro W; go_simp <;> with_reducible rfl, ?_⟩
      try simp only [Act.put, pA_, pB_, pC_]
      refine fD_ 14 fun K hK => ?_
      go_simp
      refine hK.out _ _ (.inl rfl) ?_
      clear hK K
      try simp only [Act.put, pA_, pB_, pC_]
      refine wpF_done (by kernel_rfl) ?_
      obtain ⟨h1, h2, h3, h4⟩ := HR.out _ hB
      go_wp2
      go_roundw
      case rel => exact ⟨i + 1, by omega, by go_num, h1, h2, h3, h4⟩
      case measure => simp [intOf] <;> omega
    · have hie : i = 3 := by omega
      have hd : decide ((i : Int) < 3) = false := decide_eq_false (by omega)
      have hiI : (3 : Int) ≤ (i : Int) := by omega
      rw [hie, mxL_full HY.out.1 HA.out.1] at ra
      clear hie
      go_wp2_with (first | refine wpList_load_row rfl 124 _ rfl rfl ra _ Tryd.underlying124 rfl (nmInfo HY.out) ?_ | (refine wpList_store_row rfl 124 _ _ rfl (nI Y) rfl rfl rz (by rw [z3_nm.len, HY.out.len]) (nmInfo z3_nm) ?_; intro w6 r6 hw6))
      refine bodyPost_row (p := 2) (ty := 124) rfl rfl rfl r6 Tryd.underlying124 rfl (nmInfo HY.out) ?_
      exact ⟨Y, rfl, HY.out, HYv.out, hw6.below _ _ (by omega) hbx⟩
end Go.Proofs.YtliiofjcghdjoaaDoor
