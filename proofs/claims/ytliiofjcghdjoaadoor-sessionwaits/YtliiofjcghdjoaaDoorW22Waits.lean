/- How long it takes till a message is said again, and timers at any times: the law's walk. -/
import Derived.Test.YtliiofjcghdjoaaDoorRu22
import Derived.Test.YtliiofjcghdjoaaDoorSmt
namespace Go.Proofs.YtliiofjcghdjoaaDoor
open Go.ChangeShapes Go.WideShapes Go.ChangeAt Go.RowKit
set_option linter.unusedSimpArgs false
set_option linter.unusedVariables false

theorem wp_alloc_b22 {P : Program} {w0 : World} {op : Oper} {a : Act} {w : World} {K : Act → World → Prop} {Q : Exit → Act → World → Prop} (hB : Below w0.heap.size w0 w) (ty : TypeId) (ho : op.op = .alloc ty) (cs : List Value)
    (hrun : (Instr.alloc ty true (.tuple #[])).run P w = .ok (.pointer (some ⟨w.heap.size, 0, none⟩)) (w.alloc (.cells cs.toArray ty)))
    (h : ∀ g w', BlkAt g ty cs w' → w0.heap.size ≤ g → Below w0.heap.size w0 w' → Below w.heap.size w w' → w.heap.size ≤ g → K (a.put op.dst (.pointer (some ⟨g, 0, none⟩))) w') : op.wp P a w K Q := by
  unfold Oper.wp execOp
  simp only [ho, Sem.run_bind, hrun, Result.andThen_ok, Sem.run_pure]
  exact h _ _ (BlkAt.fresh rfl rfl) hB.size (stepB hB (growB _)) (growB _) (Nat.le_refl _)
theorem build_tm0 (x : Nat) (w : World) : (Instr.build 34 #[(0, .int .u64 (x : Int))]).run Tryd.prog w = .ok (.agg (tmC x 0).toArray) w := by kernel_rfl
/-- What stands behind the law while it runs: rules, the document's timer, the program's. -/
structure Wt22 (w0 : World) (gR gm gt : Nat) (r : Rl) (last : Nat) (tr : Int) (w : World) : Prop where
  rules : BlkAt gR 27 (rlC r) w
  doc : BlkAt gm 34 (tmC last tr) w
  tim : BlkAt gt 73 (tiC r last tr) w
  below : Below w0.heap.size w0 w
  ne : gR ≠ gm ∧ gR ≠ gt ∧ gm ≠ gt ∧ w0.heap.size ≤ gm ∧ w0.heap.size ≤ gt
theorem Wt22.kept {w0 w w' : World} {gR gm gt : Nat} {r : Rl} {last : Nat} {tr : Int} (h : Wt22 w0 gR gm gt r last tr w) (hb : Below w.heap.size w w') : Wt22 w0 gR gm gt r last tr w' :=
  ⟨h.rules.kept hb, h.doc.kept hb, h.tim.kept hb, stepB h.below hb, h.ne⟩
theorem agT_step (r : Rl) (last : Nat) (tr : Int) (t : Nat) {n : Nat} (h0 : 0 ≤ tr) (hn : tr ≤ (n : Int)) (hl : last < 18446744073709551616) (ht : t < 18446744073709551616) :
    0 ≤ (agT r last tr t).1.2 ∧ (agT r last tr t).1.2 ≤ ((n + 1 : Nat) : Int) ∧ (agT r last tr t).1.1 < 18446744073709551616 := by
  unfold agT
  split
  · exact ⟨h0, by show tr ≤ _; omega, hl⟩
  · exact ⟨by show 0 ≤ tr + 1; omega, by show tr + 1 ≤ _; omega, ht⟩

set_option maxRecDepth 100000 in
set_option maxHeartbeats 8000000 in
theorem waits_walk (r : Rl) (hr : RlW r) (tries : Int) (htr : tries ≤ 9223372036854775807) (start : Nat) (hst : start < 18446744073709551616) (vx : Value) (xs : List Nat) (w : World) (hx : NuI w vx xs) (hp : PlT w) (hk : KpT w) :
    Calls Tryd.prog 3 #[.agg (rlC r).toArray, .int .i64 tries, .int .u64 (start : Int), vx] w fun e w' => e = .returned (.bool true) ∧ Below w.heap.size w w' := by
  have HP : Hid (PlT w ∧ KpT w) := ⟨hp, hk⟩
  have HR : Hid (RlW r) := hr
  have HTr : Hid (tries ≤ 9223372036854775807) := htr
  have HSt : Hid (start < 18446744073709551616) := hst
  obtain ⟨ax, cx, rfl, -, hmx, -⟩ := id hx.rd
  rw [nU_length] at *
  obtain ⟨N, hN⟩ : ∃ N, N = xs.length := ⟨_, rfl⟩
  have HN : Hid (N = xs.length) := hN
  rw [← hN] at hx ⊢
  have HX : Hid (NuI w (.slice ax N cx) xs) := hx
  clear hp hk hr htr hst hx hN hmx
  go_enter Tryd.func3, Tryd.ntmps3
  go_wp2_with (refine wpList_box_blk rfl 24 _ rfl (rlC r) rfl ?_)
  intro w1 r1 b1 s1
  obtain ⟨g, hg⟩ : ∃ n : Nat, n = w.heap.size := ⟨_, rfl⟩
  rw [← hg] at r1 ⊢
  have HR1 : Hid (BlkAt g 24 (rlC r) w1 ∧ Below w.heap.size w w1) := ⟨r1, b1⟩
  clear r1 b1 s1 hg
  go_wp2_with fail
  refine (awake_any w1 (HP.out.1.kept HR1.out.2) (HP.out.2.kept HR1.out.2)).mono ?_
  rintro e w2 ⟨rfl, b2⟩
  have HR2 : Hid (BlkAt g 24 (rlC r) w2 ∧ Below w.heap.size w w2) := ⟨HR1.out.1.kept b2, stepB HR1.out.2 b2⟩
  clear b2 HR1
  by_cases h100 : 100 < tries
  · have d : decide ((100 : Int) < tries) = true := decide_eq_true h100
    clear h100
    go_wp2
    go_ret
    exact ⟨rfl, HR2.out.2⟩
  have d : decide ((100 : Int) < tries) = false := decide_eq_false h100
  clear h100
  go_wp2_with (refine wpList_load_part rfl 24 _ rfl rfl [] (rlC r) [] HR2.out.1 rfl rfl Tryd.underlying24 rfl info_rl ?_)
  refine (rules_any r _ rfl _).mono ?_
  rintro e w3 ⟨rfl, b3⟩
  have HR3 : Hid (BlkAt g 24 (rlC r) w3 ∧ Below w.heap.size w w3) := ⟨HR2.out.1.kept b3, stepB HR2.out.2 b3⟩
  clear b3 HR2
  go_wp2_with (refine wpList_alloc_blk rfl 27 rfl (rlC ⟨0, 0, 0, 0, 0, 0, 0⟩) (alloc_r22 _) ?_)
  intro w4 r4 b4 s4
  obtain ⟨gR, hgR⟩ : ∃ n : Nat, n = w3.heap.size := ⟨_, rfl⟩
  rw [← hgR] at r4 ⊢
  have HR4 : Hid (BlkAt g 24 (rlC r) w4 ∧ Below w.heap.size w w4 ∧ BlkAt gR 27 (rlC ⟨0, 0, 0, 0, 0, 0, 0⟩) w4 ∧ g < gR ∧ w.heap.size ≤ gR) := ⟨HR3.out.1.kept b4, stepB HR3.out.2 b4, r4, by have := HR3.out.1.lt; omega, by have := HR3.out.2.size; omega⟩
  clear r4 b4 s4 hgR HR3
  go_wp2_with (refine wpList_store_part rfl 27 _ _ rfl rfl (rlC r) rfl [] (rlC ⟨0, 0, 0, 0, 0, 0, 0⟩) [] (rlC r) HR4.out.2.2.1 rfl rfl rfl rfl info_r22 (one_rl _) ?_)
  intro w5 r5 hw5
  have HR5 : Hid (BlkAt g 24 (rlC r) w5 ∧ Below w.heap.size w w5 ∧ BlkAt gR 27 (rlC r) w5) := ⟨HR4.out.1.wrote hw5 (by have := HR4.out.2.2.2.1; omega), hw5.below _ _ HR4.out.2.2.2.2 HR4.out.2.1, r5⟩
  clear r5 hw5 HR4
  obtain ⟨WT, hWT⟩ : ∃ x, x = wtN r tries := ⟨_, rfl⟩
  have HWT : Hid (WT = wtN r tries) := hWT
  clear hWT
  go_wp2_with fail
  refine wpG_begin (by kernel_rfl) ?_
  refine gU_ 0 rfl ⟨_, by intro W hW; refine Eq.trans (exec_load_part 24 _ (by rfl) (by rfl) [] (rlC r) [] HR5.out.1.drew hW (by rfl) rfl Tryd.underlying24 rfl info_rl) ?_; with_reducible rfl, ?_⟩
  try simp only [Act.put, pA_, pB_, pC_]
  refine gU_ 1 rfl ⟨_, by intro W hW; go_simp <;> with_reducible rfl, ?_⟩
  try simp only [Act.put, pA_, pB_, pC_]
  refine gU_ 3 rfl ⟨_, by intro W hW; refine Eq.trans (exec_load_part 27 _ (by rfl) (by rfl) [] (rlC r) [] HR5.out.2.2.drew hW (by rfl) rfl Tryd.underlying27 rfl info_r22) ?_; with_reducible rfl, ?_⟩
  try simp only [Act.put, pA_, pB_, pC_]
  refine gU_ 4 rfl ⟨_, by intro W hW; go_simp <;> with_reducible rfl, ?_⟩
  try simp only [Act.put, pA_, pB_, pC_]
  refine gD_ 2 fun K hK => ?_
  go_simp
  refine (cwait_any r HR.out tries HTr.out _ rfl _).mono ?_
  rw [← HWT.out]
  rintro e w6 ⟨rfl, b6⟩
  refine hK.out _ _ b6 ?_
  clear hK K
  try simp only [Act.put, pA_, pB_, pC_]
  refine gD_ 5 fun K hK => ?_
  go_simp
  refine (wait22_any r HR.out tries _ rfl _).mono ?_
  rw [← HWT.out]
  rintro e w7 ⟨rfl, b7⟩
  refine hK.out _ _ b7 ?_
  clear hK K
  try simp only [Act.put, pA_, pB_, pC_]
  refine gU_ 6 rfl ⟨_, by intro W hW; go_simp <;> with_reducible rfl, ?_⟩
  try simp only [Act.put, pA_, pB_, pC_]
  refine wpG_done (by kernel_rfl) ?_
  have hb57 : Below w5.heap.size w5 w7 := stepB (stepB (Below.refl _ w5).drew b6) b7
  have HR7 : Hid (BlkAt g 24 (rlC r) w7 ∧ Below w.heap.size w w7 ∧ BlkAt gR 27 (rlC r) w7) := ⟨HR5.out.1.kept hb57, stepB HR5.out.2.1 hb57, HR5.out.2.2.kept hb57⟩
  clear hb57 b6 b7 HR5
  go_wp2_with (refine wpList_load_part rfl 24 _ rfl rfl [] (rlC r) [] HR7.out.1 rfl rfl Tryd.underlying24 rfl info_rl ?_)
  refine (cstart_any r start _ rfl _).mono ?_
  rintro e w8 ⟨gt, rfl, hgt, hT8, b8⟩
  have HR8 : Hid (Below w.heap.size w w8 ∧ BlkAt gR 27 (rlC r) w8 ∧ BlkAt gt 73 (tiC r start 0) w8 ∧ gR ≠ gt ∧ w.heap.size ≤ gt) := ⟨stepB HR7.out.2.1 b8, HR7.out.2.2.kept b8, hT8, by have := HR7.out.2.2.lt; omega, Nat.le_trans HR7.out.2.1.size hgt⟩
  clear hgt hT8 b8 HR7
  go_wp2_with (first | refine wpList_buildB rfl 34 _ rfl #[(0, .int .u64 (start : Int))] (by go_simp; done) _ (build_tm0 _ _) ?_ | refine wpList_alloc_blk rfl 34 rfl (tmC 0 0) (alloc_t22 _) ?_)
  intro w9 r9 b9 s9
  obtain ⟨gm, hgm⟩ : ∃ n : Nat, n = w8.heap.size := ⟨_, rfl⟩
  rw [← hgm] at r9 ⊢
  have HR9 : Hid (BlkAt gm 34 (tmC 0 0) w9 ∧ Below w8.heap.size w8 w9 ∧ w8.heap.size ≤ gm) := ⟨r9, b9, by omega⟩
  clear r9 b9 s9 hgm
  go_wp2_with (refine wpList_store_part rfl 34 _ _ rfl rfl (tmC start 0) rfl [] (tmC 0 0) [] (tmC start 0) HR9.out.1 rfl rfl rfl rfl info_t22 (one_t22 _ _) ?_)
  intro w10 r10 hw10
  have hb8 : Below w8.heap.size w8 w10 := hw10.below _ _ HR9.out.2.2 HR9.out.2.1
  have HI10 : Hid (Wt22 w gR gm gt r start 0 w10) := ⟨HR8.out.2.1.kept hb8, r10, HR8.out.2.2.1.kept hb8, stepB HR8.out.1 hb8, by have := HR8.out.2.1.lt; have := HR9.out.2.2; omega, HR8.out.2.2.2.1, by have := HR8.out.2.2.1.lt; have := HR9.out.2.2; omega, by have := HR8.out.1.size; have := HR9.out.2.2; omega, HR8.out.2.2.2.2⟩
  clear r10 hw10 hb8 HR8 HR9
  go_wp2
  go_loopw [13] (fun iv wr => ∃ (i last : Nat) (tr : Int), i ≤ 50 ∧ iv = .int .i64 (i : Int) ∧ Hid (Wt22 w gR gm gt r last tr wr ∧ 0 ≤ tr ∧ tr ≤ (i : Int) ∧ last < 18446744073709551616)) (fun iv _ => 50 - (intOf iv).toNat)
  case atStart => exact ⟨0, start, 0, by omega, rfl, HI10.out, by omega, by omega, HSt.out⟩
  case round =>
    obtain ⟨i, last, tr, hi, rfl, HI⟩ := hrel
    by_cases hlt : i < N
    · have d1 : decide ((i : Int) < (N : Int)) = true := decide_eq_true (by omega)
      have d1N : decide (i < N) = true := decide_eq_true hlt
      by_cases h50 : i < 50
      · have d2 : decide ((i : Int) < 50) = true := decide_eq_true (by omega)
        have d2N : decide (i < 50) = true := decide_eq_true h50
        have hiN : (i : Int) < (N : Int) := by omega
        obtain ⟨bx, ox, rfl, hcx, ht64⟩ := HX.out.at rfl HI.out.1.below (i := i) (by rw [← HN.out]; exact hlt)
        obtain ⟨t, ht⟩ : ∃ t, t = xs.getD i 0 := ⟨_, rfl⟩
        have HCx : Hid (∀ W, Below w.heap.size w W → W.cell? ⟨bx, ox + i, none⟩ = some (.int .u64 (t : Int))) := fun W hW => by
          obtain ⟨b', o', e1, h2, -⟩ := HX.out.at rfl hW (i := i) (by rw [← HN.out]; exact hlt)
          simp only [Option.some.injEq, Addr.mk.injEq, and_true] at e1
          obtain ⟨rfl, rfl⟩ := e1
          rw [ht]
          exact h2
        rw [← ht] at ht64
        have HT64 : Hid (t < 18446744073709551616) := ht64
        obtain ⟨D, hD⟩ : ∃ D, D = duB r last tr t := ⟨_, rfl⟩
        have HD : Hid (D = duB r last tr t) := hD
        have HB : Hid (-9223372036854775808 ≤ tr ∧ tr ≤ 9223372036854775807) := by
          show _ ∧ _
          have := HI.out.2.1
          have := HI.out.2.2.1
          omega
        have ei : IntKind.i64.wrap ((i : Int) + 1) = ((i + 1 : Nat) : Int) := by rw [IntWalk.i64_in _ (by omega)]; omega
        have HI1 : Hid (i + 1 ≤ 50) := h50
        clear ht hcx ht64 hD hlt h50 HI10 hi
        go_wp2_with fail
        refine wpG_begin (by kernel_rfl) ?_
        refine gU_ 0 rfl ⟨_, by intro W hW; refine Eq.trans (exec_load_part 27 _ (by rfl) (by rfl) [] (rlC r) [] HI.out.1.rules.drew hW (by rfl) rfl Tryd.underlying27 rfl info_r22) ?_; with_reducible rfl, ?_⟩
        try simp only [Act.put, pA_, pB_, pC_]
        refine gU_ 1 rfl ⟨_, by intro W hW; refine Eq.trans (exec_load_part 34 _ (by rfl) (by rfl) [] (tmC last tr) [] HI.out.1.doc.drew hW (by rfl) rfl Tryd.underlying34 rfl info_t22) ?_; with_reducible rfl, ?_⟩
        try simp only [Act.put, pA_, pB_, pC_]
        refine gU_ 2 rfl ⟨_, by intro W hW; go_simp <;> with_reducible rfl, ?_⟩
        try simp only [Act.put, pA_, pB_, pC_]
        refine gU_ 3 rfl ⟨_, by intro W hW; go_simp <;> with_reducible rfl, ?_⟩
        try simp only [Act.put, pA_, pB_, pC_]
        refine gU_ 4 rfl ⟨_, by intro W hW; go_simp <;> with_reducible rfl, ?_⟩
        try simp only [Act.put, pA_, pB_, pC_]
        refine gU_ 5 rfl ⟨_, by intro W hW; have cW := HCx.out W (stepB HI.out.1.below.drew hW); go_simp <;> with_reducible rfl, ?_⟩
        try simp only [Act.put, pA_, pB_, pC_]
        refine gD_ 6 fun K hK => ?_
        go_simp
        refine (due22_any r HR.out last tr t HI.out.2.2.2 HT64.out _ _ rfl rfl _).mono ?_
        rw [← HD.out]
        rintro e w11 ⟨rfl, b11⟩
        refine hK.out _ _ b11 ?_
        clear hK K
        try simp only [Act.put, pA_, pB_, pC_]
        refine gU_ 7 rfl ⟨_, by intro W hW; go_simp <;> with_reducible rfl, ?_⟩
        try simp only [Act.put, pA_, pB_, pC_]
        refine wpG_done (by kernel_rfl) ?_
        have HI11 : Hid (Wt22 w gR gm gt r last tr w11 ∧ 0 ≤ tr ∧ tr ≤ (i : Int) ∧ last < 18446744073709551616) := ⟨HI.out.1.kept (stepB (Below.refl _ wr).drew b11), HI.out.2⟩
        have c11 := HCx.out w11 HI11.out.1.below
        clear b11 HI
        go_wp2_with fail
        refine (cdue_any gt r HR.out last tr t HI11.out.2.2.2 HB.out.2 HT64.out _ HI11.out.1.tim).mono ?_
        rw [← HD.out]
        rintro e w12 ⟨rfl, b12⟩
        have HI12 : Hid (Wt22 w gR gm gt r last tr w12 ∧ 0 ≤ tr ∧ tr ≤ (i : Int) ∧ last < 18446744073709551616) := ⟨HI11.out.1.kept b12, HI11.out.2⟩
        clear b12 HI11 c11
        cases D
        · go_wp2
          go_roundw
          case rel => exact ⟨i + 1, last, tr, HI1.out, by go_num, HI12.out.1, HI12.out.2.1, by have := HI12.out.2.2.1; omega, HI12.out.2.2.2⟩
          case measure => have := HI1.out; simp [intOf] <;> omega
        · obtain ⟨G, hG⟩ : ∃ G, G = agT r last tr t := ⟨_, rfl⟩
          have HS : Hid (0 ≤ G.1.2 ∧ G.1.2 ≤ ((i + 1 : Nat) : Int) ∧ G.1.1 < 18446744073709551616) := (by rw [hG]; exact agT_step r last tr t HI12.out.2.1 HI12.out.2.2.1 HI12.out.2.2.2 HT64.out : 0 ≤ G.1.2 ∧ G.1.2 ≤ ((i + 1 : Nat) : Int) ∧ G.1.1 < 18446744073709551616)
          have HG : Hid (G = agT r last tr t) := hG
          obtain ⟨⟨la, ta⟩, q⟩ := G
          clear hG
          go_wp2_with fail
          have hB : Below w12.heap.size w12 w12.drew := (Below.refl _ _).drew
          refine wpB_begin (Below.refl w12.heap.size w12) (by kernel_rfl) ?_
          refine bU_ hB 0 rfl ⟨_, by intro W hW; refine Eq.trans (exec_load_part 27 _ (by rfl) (by rfl) [] (rlC r) [] HI12.out.1.rules hW (by rfl) rfl Tryd.underlying27 rfl info_r22) ?_; with_reducible rfl, ?_⟩
          try simp only [Act.put, pA_, pB_, pC_]
          refine bU_ hB 1 rfl ⟨_, by intro W hW; refine Eq.trans (exec_load_part 34 _ (by rfl) (by rfl) [] (tmC last tr) [] HI12.out.1.doc hW (by rfl) rfl Tryd.underlying34 rfl info_t22) ?_; with_reducible rfl, ?_⟩
          try simp only [Act.put, pA_, pB_, pC_]
          refine bU_ hB 2 rfl ⟨_, by intro W hW; go_simp <;> with_reducible rfl, ?_⟩
          try simp only [Act.put, pA_, pB_, pC_]
          refine bU_ hB 3 rfl ⟨_, by intro W hW; go_simp <;> with_reducible rfl, ?_⟩
          try simp only [Act.put, pA_, pB_, pC_]
          refine bU_ hB 4 rfl ⟨_, by intro W hW; go_simp <;> with_reducible rfl, ?_⟩
          try simp only [Act.put, pA_, pB_, pC_]
          refine bU_ hB 5 rfl ⟨_, by intro W hW; have cW := HCx.out W (stepB HI12.out.1.below hW); go_simp <;> with_reducible rfl, ?_⟩
          try simp only [Act.put, pA_, pB_, pC_]
          refine bF_ 6 10 (fun K hK => ?_) (fun K hK => ?_)
          · go_simp
            refine (again22_any r HR.out last tr t HB.out _ _ rfl rfl _).mono ?_
            rw [← HG.out]
            rintro e wq ⟨rfl, bq⟩
            replace hB := stepB hB bq
            try replace hM := BlkAt.kept hM bq
            refine hK.out _ _ hB ?_
            clear hK K
            try simp only [Act.put, pA_, pB_, pC_]
            refine bU_ hB 7 rfl ⟨_, by intro W hW; go_simp <;> with_reducible rfl, ?_⟩
            try simp only [Act.put, pA_, pB_, pC_]
            refine bU_ hB 8 rfl ⟨_, by intro W hW; go_simp <;> with_reducible rfl, ?_⟩
            try simp only [Act.put, pA_, pB_, pC_]
            refine bU_ hB 9 rfl ⟨_, by intro W hW; go_simp <;> with_reducible rfl, ?_⟩
            try simp only [Act.put, pA_, pB_, pC_]
            refine bD_ 10 fun K hK => ?_
            refine wp_alloc_b22 hB 34 rfl (tmC 0 0) (alloc_t22 _) ?_
            intro gz wN hM hge hBA hBc hge2
            replace hB := hBA
            refine hK.out _ _ hB ?_
            clear hK K
            try simp only [Act.put, pA_, pB_, pC_]
            refine bD_ 11 fun K hK => ?_
            refine wp_store_part 34 _ _ rfl rfl (tmC la ta) rfl [] (tmC 0 0) [] (tmC la ta) hM rfl rfl rfl rfl info_t22 (one_t22 _ _) ?_
            intro wS hMS hwS
            replace hB := hwS.below _ _ hge hB
            refine hK.out _ _ hB ?_
            clear hK K
            try simp only [Act.put, pA_, pB_, pC_]
            refine bU_ hB 12 rfl ⟨_, by intro W hW; go_simp <;> with_reducible rfl, ?_⟩
            try simp only [Act.put, pA_, pB_, pC_]
            refine wpB_done (by kernel_rfl) ?_
            have HS2 : Hid (Below w12.heap.size w12 wS ∧ BlkAt gz 34 (tmC la ta) wS) := ⟨hB, hMS⟩
            have HI13 : Hid (Wt22 w gR gm gt r last tr wS) := HI12.out.1.kept HS2.out.1
            have c13 := HCx.out wS HI13.out.below
            clear hB hMS hwS hM
            go_wp2_with (first | refine wpList_load_part rfl 34 _ rfl rfl [] (tmC la ta) [] HS2.out.2 rfl rfl Tryd.underlying34 rfl info_t22 ?_ | refine wpList_store_part rfl 34 _ _ rfl rfl (tmC la ta) rfl [] (tmC last tr) [] (tmC la ta) HI13.out.doc rfl rfl rfl rfl info_t22 (one_t22 _ _) ?_)
            intro w14 r14 hw14
            have HI14 : Hid (BlkAt gR 27 (rlC r) w14 ∧ BlkAt gm 34 (tmC la ta) w14 ∧ BlkAt gt 73 (tiC r last tr) w14 ∧ Below w.heap.size w w14) := ⟨HI13.out.rules.wrote hw14 HI13.out.ne.1, r14, HI13.out.tim.wrote hw14 (fun e => HI13.out.ne.2.2.1 e.symm), hw14.below _ _ HI13.out.ne.2.2.2.1 HI13.out.below⟩
            have HNe : Hid (gR ≠ gm ∧ gR ≠ gt ∧ gm ≠ gt ∧ w.heap.size ≤ gm ∧ w.heap.size ≤ gt) := HI13.out.ne
            have c14 := HCx.out w14 HI14.out.2.2.2
            clear r14 hw14 c13 HI13 HS2
            go_wp2_with fail
            refine (cagain_any gt r last tr t HB.out HR.out _ HI14.out.2.2.1).mono ?_
            rw [← HG.out]
            rintro e w15 ⟨rfl, hT15, c15⟩
            have HI15 : Hid (Wt22 w gR gm gt r la ta w15) := ⟨HI14.out.1.chg c15 HNe.out.2.1, HI14.out.2.1.chg c15 HNe.out.2.2.1, hT15, Chg.gone HI14.out.2.2.2 c15 HI14.out.2.2.2.size HNe.out.2.2.2.2, HNe.out⟩
            clear hT15 c15 HI14 c14
            cases q
            · go_wp2
              go_roundw
              case rel => exact ⟨i + 1, la, ta, HI1.out, by go_num, HI15.out, HS.out.1, HS.out.2.1, HS.out.2.2⟩
              case measure => have := HI1.out; simp [intOf] <;> omega
            · go_wp2
              go_roundw
              case rel => exact ⟨i + 1, la, ta, HI1.out, by go_num, HI15.out, HS.out.1, HS.out.2.1, HS.out.2.2⟩
              case measure => have := HI1.out; simp [intOf] <;> omega
          · refine wp_alloc_b22 hB 34 rfl (tmC 0 0) (alloc_t22 _) ?_
            intro gz wN hM hge hBA hBc hge2
            replace hB := hBA
            refine hK.out _ _ hB ?_
            clear hK K
            try simp only [Act.put, pA_, pB_, pC_]
            refine bD_ 6 fun K hK => ?_
            go_simp
            refine (again22_any r HR.out last tr t HB.out _ _ rfl rfl _).mono ?_
            rw [← HG.out]
            rintro e wq ⟨rfl, bq⟩
            replace hB := stepB hB bq
            try replace hM := BlkAt.kept hM bq
            refine hK.out _ _ hB ?_
            clear hK K
            try simp only [Act.put, pA_, pB_, pC_]
            refine bU_ hB 7 rfl ⟨_, by intro W hW; go_simp <;> with_reducible rfl, ?_⟩
            try simp only [Act.put, pA_, pB_, pC_]
            refine bU_ hB 8 rfl ⟨_, by intro W hW; go_simp <;> with_reducible rfl, ?_⟩
            try simp only [Act.put, pA_, pB_, pC_]
            refine bU_ hB 9 rfl ⟨_, by intro W hW; go_simp <;> with_reducible rfl, ?_⟩
            try simp only [Act.put, pA_, pB_, pC_]
            refine bD_ 11 fun K hK => ?_
            refine wp_store_part 34 _ _ rfl rfl (tmC la ta) rfl [] (tmC 0 0) [] (tmC la ta) hM rfl rfl rfl rfl info_t22 (one_t22 _ _) ?_
            intro wS hMS hwS
            replace hB := hwS.below _ _ hge hB
            refine hK.out _ _ hB ?_
            clear hK K
            try simp only [Act.put, pA_, pB_, pC_]
            refine bU_ hB 12 rfl ⟨_, by intro W hW; go_simp <;> with_reducible rfl, ?_⟩
            try simp only [Act.put, pA_, pB_, pC_]
            refine wpB_done (by kernel_rfl) ?_
            have HS2 : Hid (Below w12.heap.size w12 wS ∧ BlkAt gz 34 (tmC la ta) wS) := ⟨hB, hMS⟩
            have HI13 : Hid (Wt22 w gR gm gt r last tr wS) := HI12.out.1.kept HS2.out.1
            have c13 := HCx.out wS HI13.out.below
            clear hB hMS hwS hM
            go_wp2_with (first | refine wpList_load_part rfl 34 _ rfl rfl [] (tmC la ta) [] HS2.out.2 rfl rfl Tryd.underlying34 rfl info_t22 ?_ | refine wpList_store_part rfl 34 _ _ rfl rfl (tmC la ta) rfl [] (tmC last tr) [] (tmC la ta) HI13.out.doc rfl rfl rfl rfl info_t22 (one_t22 _ _) ?_)
            intro w14 r14 hw14
            have HI14 : Hid (BlkAt gR 27 (rlC r) w14 ∧ BlkAt gm 34 (tmC la ta) w14 ∧ BlkAt gt 73 (tiC r last tr) w14 ∧ Below w.heap.size w w14) := ⟨HI13.out.rules.wrote hw14 HI13.out.ne.1, r14, HI13.out.tim.wrote hw14 (fun e => HI13.out.ne.2.2.1 e.symm), hw14.below _ _ HI13.out.ne.2.2.2.1 HI13.out.below⟩
            have HNe : Hid (gR ≠ gm ∧ gR ≠ gt ∧ gm ≠ gt ∧ w.heap.size ≤ gm ∧ w.heap.size ≤ gt) := HI13.out.ne
            have c14 := HCx.out w14 HI14.out.2.2.2
            clear r14 hw14 c13 HI13 HS2
            go_wp2_with fail
            refine (cagain_any gt r last tr t HB.out HR.out _ HI14.out.2.2.1).mono ?_
            rw [← HG.out]
            rintro e w15 ⟨rfl, hT15, c15⟩
            have HI15 : Hid (Wt22 w gR gm gt r la ta w15) := ⟨HI14.out.1.chg c15 HNe.out.2.1, HI14.out.2.1.chg c15 HNe.out.2.2.1, hT15, Chg.gone HI14.out.2.2.2 c15 HI14.out.2.2.2.size HNe.out.2.2.2.2, HNe.out⟩
            clear hT15 c15 HI14 c14
            cases q
            · go_wp2
              go_roundw
              case rel => exact ⟨i + 1, la, ta, HI1.out, by go_num, HI15.out, HS.out.1, HS.out.2.1, HS.out.2.2⟩
              case measure => have := HI1.out; simp [intOf] <;> omega
            · go_wp2
              go_roundw
              case rel => exact ⟨i + 1, la, ta, HI1.out, by go_num, HI15.out, HS.out.1, HS.out.2.1, HS.out.2.2⟩
              case measure => have := HI1.out; simp [intOf] <;> omega
      · have d2 : decide ((i : Int) < 50) = false := decide_eq_false (by omega)
        have d2N : decide (i < 50) = false := decide_eq_false h50
        have HI2 : Hid (Below w.heap.size w wr) := HI.out.1.below
        clear HI HI10
        go_wp2
        go_ret
        exact ⟨rfl, HI2.out⟩
    · have d1 : decide ((i : Int) < (N : Int)) = false := decide_eq_false (by omega)
      have d1N : decide (i < N) = false := decide_eq_false hlt
      have HI2 : Hid (Below w.heap.size w wr) := HI.out.1.below
      clear HI HI10
      go_wp2
      go_ret
      exact ⟨rfl, HI2.out⟩
end Go.Proofs.YtliiofjcghdjoaaDoor
