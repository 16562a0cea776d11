/- A buffer's plain methods: contracts of package frag, seventh part. -/
import Derived.Test.YtkljklfejaojaaaFg19f
namespace Go.Proofs.Ytkljklfejaojaaa
open Go.ChangeShapes Go.WideShapes Go.ChangeAt Go.RowKit
set_option linter.unusedSimpArgs false
set_option linter.unusedVariables false

/-- A value of one cell is laid into a new variable. -/
theorem wpList_box_v19 {P : Program} {ops : Array Oper} {rest : List Oper} {op : Oper} {a : Act} {w : World} {Q : Exit → Act → World → Prop} (hgd : op.guard = none) (ty : TypeId) (x : Operand) (ho : op.op = .box ty x) (v : Value)
    (hx : a.eval x = v) (hrun : (Instr.box ty v).run P w = .ok (.pointer (some ⟨w.heap.size, 0, none⟩)) (w.alloc (.cells #[v] ty)))
    (h : ∀ w', BlkAt w.heap.size ty [v] w' → Below w.heap.size w w' → Hid (w'.heap.size = w.heap.size + 1) → wpList P ops Q rest (a.put op.dst (.pointer (some ⟨w.heap.size, 0, none⟩))) w') : wpList P ops Q (op :: rest) a w := by
  refine wpList_plain hgd fun K hK => ?_
  unfold Oper.wp execOp
  simp only [ho, hx, Sem.run_bind, hrun, Result.andThen_ok, Sem.run_pure]
  exact hK _ _ (h _ (BlkAt.fresh rfl rfl) (growB _) (show _ = _ by simp))
theorem boxB19 (g : Nat) (w : World) : (Instr.box 34 (pV g)).run Try.prog w = .ok (.pointer (some ⟨w.heap.size, 0, none⟩)) (w.alloc (.cells #[pV g] 34)) := rfl
theorem boxU19 (n : Nat) (w : World) : (Instr.box 32 (.int .u64 (n : Int))).run Try.prog w = .ok (.pointer (some ⟨w.heap.size, 0, none⟩)) (w.alloc (.cells #[.int .u64 (n : Int)] 32)) := rfl
theorem boxI19 (n : Int) (w : World) : (Instr.box 3 (.int .i64 n)).run Try.prog w = .ok (.pointer (some ⟨w.heap.size, 0, none⟩)) (w.alloc (.cells #[.int .i64 n] 3)) := rfl
theorem boxS19 (p : List UInt8) (w : World) : (Instr.box 9 (.string ⟨p.toArray⟩)).run Try.prog w = .ok (.pointer (some ⟨w.heap.size, 0, none⟩)) (w.alloc (.cells #[.string ⟨p.toArray⟩] 9)) := rfl
theorem mkf19 (fn : Fn) (first cap : Array Value) (w : World) : (Instr.makeFunc fn first cap).run Try.prog w = .ok (.func fn first cap) w := rfl
theorem exL_keY (age now : Nat) (xs : List Ey) : enYs (keY (fun x => !yoE age now x.e) xs) = exL age now (enYs xs) := by
  unfold enYs exL
  rw [keY_map (fun e => !yoE age now e)]
  simp
theorem drL_keY (p : List UInt8) (xs : List Ey) : enYs (keY (fun x => decide (x.e.peer = p)) xs) = drL p (enYs xs) := by
  unfold enYs drL
  rw [keY_map (fun e => decide (e.peer = p))]
/-- A buffer's list is another one of its own. -/
theorem BuX.keep {K : Nat → Prop} {w0 w : World} {gb : Nat} {ve v' : Value} {bf : Bf} {xs : List Ey} (f : Ey → Bool) {l' : List Ent} (hX : BuX K w gb ve bf xs) (hK : ∀ k, w0.heap.size ≤ k → K k) (hb : w0.heap.size ≤ w.heap.size)
    (ho : w.ownsRow w0.heap.size 66 1 v' (keY f xs).length (pvs (keY f xs))) (hl : l' = enYs (keY f xs)) :
    BuX K (w.setCell ⟨gb, 3, none⟩ v') gb v' ⟨bf.pm, bf.am, bf.age, l'⟩ (keY f xs) :=
  hX.list (fun k hk => hK k (Nat.le_trans hb hk)) (keY_mem f xs) (keY_dist hX.dist) hl (own_monoG ho (Nat.zero_le _)) (fun g hg => hK g (ho.lt g hg).1) (hX.blk.set 3 v') (Chg.of_wrote (Wrote.set gb 3 w v'))

set_option maxRecDepth 100000 in
set_option maxHeartbeats 4000000 in
theorem expire_any (bf : Bf) (now : Nat) (hn : now < 18446744073709551616) (gb : Nat) (K0 : Nat → Prop) (w : World) (hK : ∀ k, w.heap.size ≤ k → K0 k) (hB : BuP K0 w gb bf) (hs : EnS bf.l) (hl : bf.l.length ≤ 1000) :
    Calls Try.prog 13 #[pV gb, .int .u64 (now : Int)] w fun e w' => e = .returned (.tuple #[]) ∧ (∃ ve xs, BuX K0 w' gb ve ⟨bf.pm, bf.am, bf.age, exL bf.age now bf.l⟩ xs ∧ ∀ g, ve.ownBlock = some g → w.heap.size ≤ g) ∧ Cp (fun k => k = gb) w w' := by
  obtain ⟨ve, xs, hX⟩ := hB
  have hle : bf.l = enYs xs := hX.l
  obtain ⟨a, c, rfl, -, hc3, -⟩ := (RdC.of_own hX.row).formF
  rw [pvs_length] at hX
  have hxl : xs.length ≤ 1000 := by rw [hle, enYs_length] at hl; exact hl
  rw [hle] at hs
  have c3 : w.cell? ⟨gb, 3, none⟩ = some (.slice a xs.length c) := hX.blk.cell 3
  have HCall : Hid (∀ W g2 g3, Below w.heap.size w W → W.cell? ⟨g2, 0, none⟩ = some (pV gb) → W.cell? ⟨g3, 0, none⟩ = some (.int .u64 (now : Int)) → Calls Try.prog 26 #[.slice a xs.length c, .func (.func 27) #[] #[.pointer (some ⟨g3, 0, none⟩), .pointer (some ⟨g2, 0, none⟩)]] W fun e w' => ∃ v', e = .returned v' ∧ w'.ownsRow W.heap.size 66 1 v' (keY (fun x => !yoE bf.age now x.e) xs).length (pvs (keY (fun x => !yoE bf.age now x.e) xs)) ∧ Below W.heap.size W w') := by
    show ∀ W, _
    intro W g2 g3 hW h2 h3
    refine without_any 27 #[.pointer (some ⟨g3, 0, none⟩), .pointer (some ⟨g2, 0, none⟩)] (fun x => !yoE bf.age now x.e) xs _ W ((RdC.of_own hX.row).kept hW) (by omega) (fun args w => enters_byF Try.func27 (by kernel_rfl) rfl args w) fun x hx V hV => ?_
    have hb := hW.trans (hV.mono hW.size)
    exact cExpire_any bf.age now hn g3 g2 gb x V (BlkAt.kept (hX.ent.enF x hx) hb) (hs x.e (List.mem_map.2 ⟨x, hx, rfl⟩)).b (cellF h3 hV) (cellF h2 hV) (cellF (hX.blk.cell 2) hb)
  have HX : Hid (BuX K0 w gb (.slice a xs.length c) bf xs) := hX
  have HKs : Hid (∀ k, w.heap.size ≤ k → K0 k) := hK
  have HE : Hid (exL bf.age now bf.l = enYs (keY (fun x => !yoE bf.age now x.e) xs)) := by show _ = _; rw [exL_keY, hle]
  obtain ⟨n, hnn⟩ : ∃ n, n = xs.length := ⟨_, rfl⟩
  rw [← hnn] at HCall HX c3
  have hlt := hX.blk.lt
  have fz := hX.blk.free 3
  have HLt : Hid (gb < w.heap.size) := hlt
  clear hX hK hs hl hle hxl hnn hn hc3 hlt fz
  go_enter Try.func13, Try.ntmps13
  go_wp2_with (refine wpList_box_v19 rfl 34 _ rfl (pV gb) rfl (boxB19 _ _) ?_)
  intro w1 r1 b1 s1
  obtain ⟨g2, hg2⟩ : ∃ g, g = w.heap.size := ⟨_, rfl⟩
  rw [← hg2] at r1 ⊢
  clear s1 hg2
  go_wp2_with (refine wpList_box_v19 rfl 32 _ rfl (.int .u64 (now : Int)) rfl (boxU19 _ _) ?_)
  intro w2 r2 b2 s2
  obtain ⟨g3, hg3⟩ : ∃ g, g = w1.heap.size := ⟨_, rfl⟩
  rw [← hg3] at r2 ⊢
  clear s2 hg3
  replace r1 := r1.kept b2
  have hb2 : Below w.heap.size w w2 := stepB b1 b2
  have k2 : w2.cell? ⟨g2, 0, none⟩ = some (pV gb) := r1.cell 0
  have k3 : w2.cell? ⟨g3, 0, none⟩ = some (.int .u64 (now : Int)) := r2.cell 0
  replace c3 := cellF c3 hb2
  have HB2 : Hid (Below w.heap.size w w2) := hb2
  clear b1 b2 r1 r2 hb2
  go_wp2_with fail
  have hB : Below w2.heap.size w2 w2.drew := (Below.refl _ _).drew
  refine wpF_begin 9 (w0 := w2) (by kernel_rfl) ?_
  refine fU_ hB 0 rfl ⟨_, by intro W hW; have hcW := cellF k2 hW; go_simp <;> with_reducible rfl, ?_⟩
  try simp only [Act.put, pA_, pB_, pC_]
  refine fU_ hB 1 rfl ⟨_, by intro W hW; have hcW := cellF k2 hW; go_simp <;> with_reducible rfl, ?_⟩
  try simp only [Act.put, pA_, pB_, pC_]
  refine fP_ (.inr hB) 2 rfl ⟨_, by intro W; go_simp <;> with_reducible rfl, ?_⟩
  try simp only [Act.put, pA_, pB_, pC_]
  refine fP_ (.inr hB) 3 rfl ⟨_, by intro W; go_simp <;> with_reducible rfl, ?_⟩
  try simp only [Act.put, pA_, pB_, pC_]
  refine fU_ hB 4 rfl ⟨_, by intro W hW; have hcW := cellF c3 hW; go_simp <;> with_reducible rfl, ?_⟩
  try simp only [Act.put, pA_, pB_, pC_]
  refine fD_ 5 fun K hK => ?_
  go_simp
  refine hK.out _ _ (.inr hB) ?_
  clear hK K
  try simp only [Act.put, pA_, pB_, pC_]
  refine fD_ 6 fun K hK => ?_
  go_simp
  refine (HCall.out _ g2 g3 (stepB HB2.out hB) (cellF k2 hB) (cellF k3 hB)).mono ?_
  rintro e w5 ⟨v', rfl, ho, b5⟩
  have HX5 : Hid (BuX K0 w5 gb (.slice a n c) bf xs) := HX.out.kept (stepB (stepB HB2.out hB) b5)
  have HB5 : Hid (Below w.heap.size w w5) := stepB (stepB HB2.out hB) b5
  have HO5 : Hid _ := own_monoG ho (stepB HB2.out hB).size
  obtain ⟨a', c', rfl, -, -, -⟩ := (RdC.of_own ho).formF
  replace hB := stepB hB b5
  have f5 := HX5.out.blk.free 3
  have c5 : w5.cell? ⟨gb, 3, none⟩ = some (.slice a n c) := HX5.out.blk.cell 3
  clear ho b5
  refine hK.out _ _ (.inr hB) ?_
  clear hK K
  try simp only [Act.put, pA_, pB_, pC_]
  refine fP_ (.inr hB) 7 rfl ⟨_, by intro W; go_simp <;> with_reducible rfl, ?_⟩
  try simp only [Act.put, pA_, pB_, pC_]
  refine fP_ (.inr hB) 8 rfl ⟨_, by intro W; go_simp <;> with_reducible rfl, ?_⟩
  try simp only [Act.put, pA_, pB_, pC_]
  refine fD_ 9 fun K hK => ?_
  go_simp
  refine hK.out _ _ (.inl rfl) ?_
  clear hK K
  try simp only [Act.put, pA_, pB_, pC_]
  refine wpF_done (by kernel_rfl) ?_
  go_wp2
  go_end0
  exact ⟨rfl, ⟨_, _, HX5.out.keep _ HKs.out HB5.out.size HO5.out HE.out, fun g hg => (World.ownsRow.lt HO5.out g hg).1⟩, (Cp.of_below HB5.out).trans (Cp.buf HX5.out.blk)⟩

set_option maxRecDepth 100000 in
set_option maxHeartbeats 4000000 in
theorem drop_any (bf : Bf) (p : List UInt8) (gb : Nat) (K : Nat → Prop) (w : World) (hK : ∀ k, w.heap.size ≤ k → K k) (hB : BuP K w gb bf) (hl : bf.l.length ≤ 1000) :
    Calls Try.prog 15 #[pV gb, .string ⟨p.toArray⟩] w fun e w' => e = .returned (.tuple #[]) ∧ BuP K w' gb ⟨bf.pm, bf.am, bf.age, drL p bf.l⟩ ∧ Cp (fun k => k = gb) w w' := by
  obtain ⟨ve, xs, hX⟩ := hB
  have hle : bf.l = enYs xs := hX.l
  obtain ⟨a, c, rfl, -, hc3, -⟩ := (RdC.of_own hX.row).formF
  rw [pvs_length] at hX
  have hxl : xs.length ≤ 1000 := by rw [hle, enYs_length] at hl; exact hl
  have c3 : w.cell? ⟨gb, 3, none⟩ = some (.slice a xs.length c) := hX.blk.cell 3
  have HCall : Hid (∀ W g2, Below w.heap.size w W → W.cell? ⟨g2, 0, none⟩ = some (.string ⟨p.toArray⟩) → Calls Try.prog 26 #[.slice a xs.length c, .func (.func 28) #[] #[.pointer (some ⟨g2, 0, none⟩)]] W fun e w' => ∃ v', e = .returned v' ∧ w'.ownsRow W.heap.size 66 1 v' (keY (fun x => decide (x.e.peer = p)) xs).length (pvs (keY (fun x => decide (x.e.peer = p)) xs)) ∧ Below W.heap.size W w') := by
    show ∀ W, _
    intro W g2 hW h2
    refine without_any 28 #[.pointer (some ⟨g2, 0, none⟩)] (fun x => decide (x.e.peer = p)) xs _ W ((RdC.of_own hX.row).kept hW) (by omega) (fun args w => enters_byF Try.func28 (by kernel_rfl) rfl args w) fun x hx V hV => ?_
    have hb := hW.trans (hV.mono hW.size)
    exact cDrop_any p g2 x V (BlkAt.kept (hX.ent.enF x hx) hb) (cellF h2 hV)
  have HX : Hid (BuX K w gb (.slice a xs.length c) bf xs) := hX
  have HKs : Hid (∀ k, w.heap.size ≤ k → K k) := hK
  have HE : Hid (drL p bf.l = enYs (keY (fun x => decide (x.e.peer = p)) xs)) := by show _ = _; rw [drL_keY, hle]
  obtain ⟨n, hnn⟩ : ∃ n, n = xs.length := ⟨_, rfl⟩
  rw [← hnn] at HCall HX c3
  clear hX hK hl hle hxl hnn hc3
  go_enter Try.func15, Try.ntmps15
  go_wp2_with (refine wpList_box_v19 rfl 9 _ rfl (.string ⟨p.toArray⟩) rfl (boxS19 _ _) ?_)
  intro w2 r1 b1 s1
  obtain ⟨g2, hg2⟩ : ∃ g, g = w.heap.size := ⟨_, rfl⟩
  rw [← hg2] at r1 ⊢
  clear s1 hg2
  have k2 : w2.cell? ⟨g2, 0, none⟩ = some (.string ⟨p.toArray⟩) := r1.cell 0
  replace c3 := cellF c3 b1
  have HB2 : Hid (Below w.heap.size w w2) := b1
  clear b1 r1
  go_wp2_with fail
  refine (HCall.out _ g2 HB2.out k2).mono ?_
  rintro e w5 ⟨v', rfl, ho, b5⟩
  have HX5 : Hid _ := HX.out.kept (stepB HB2.out b5)
  have HB5 : Hid (Below w.heap.size w w5) := stepB HB2.out b5
  have HO5 : Hid _ := own_monoG ho HB2.out.size
  obtain ⟨a', c', rfl, -, -, -⟩ := (RdC.of_own ho).formF
  have f5 := HX5.out.blk.free 3
  have c5 : w5.cell? ⟨gb, 3, none⟩ = some (.slice a n c) := HX5.out.blk.cell 3
  clear ho b5
  go_wp2
  go_end0
  exact ⟨rfl, ⟨_, _, HX5.out.keep _ HKs.out HB5.out.size HO5.out HE.out⟩, (Cp.of_below HB5.out).trans (Cp.buf HX5.out.blk)⟩
set_option maxRecDepth 100000 in
set_option maxHeartbeats 4000000 in
theorem btotal_any (bf : Bf) (gb : Nat) (K : Nat → Prop) (w : World) (hB : BuP K w gb bf) (hs : EnS bf.l) (hl : bf.l.length ≤ 1000) :
    Calls Try.prog 19 #[pV gb] w fun e w' => e = .returned (.int .i64 (ttB bf.l : Int)) ∧ Below w.heap.size w w' := by
  obtain ⟨ve, xs, hX⟩ := hB
  have hle : bf.l = enYs xs := hX.l
  obtain ⟨a, c, rfl, -, hc3, -⟩ := (RdC.of_own hX.row).formF
  rw [pvs_length] at hX
  have c3 : w.cell? ⟨gb, 3, none⟩ = some (.slice a xs.length c) := hX.blk.cell 3
  rw [hle] at hs hl ⊢
  have HCall : Hid _ := total_any xs (.slice a xs.length c) (by rwa [enYs_length] at hl) hs w (RdC.of_own hX.row) hX.ent.enF
  generalize ((ttB (enYs xs) : Nat) : Int) = r at HCall ⊢
  generalize xs.length = n at HCall c3
  clear hX hs hl hle hc3
  go_enter Try.func19, Try.ntmps19
  go_wp2_with fail
  refine Calls.mono HCall.out ?_
  rintro e w5 ⟨rfl, b5⟩
  go_wp2
  go_ret
  exact ⟨rfl, b5⟩
set_option maxRecDepth 100000 in
set_option maxHeartbeats 4000000 in
theorem bheld_any (bf : Bf) (p : List UInt8) (gb : Nat) (K : Nat → Prop) (w : World) (hB : BuP K w gb bf) (hs : EnS bf.l) (hl : bf.l.length ≤ 1000) :
    Calls Try.prog 22 #[pV gb, .string ⟨p.toArray⟩] w fun e w' => e = .returned (.int .i64 (hdB bf.l p : Int)) ∧ Below w.heap.size w w' := by
  obtain ⟨ve, xs, hX⟩ := hB
  have hle : bf.l = enYs xs := hX.l
  obtain ⟨a, c, rfl, -, hc3, -⟩ := (RdC.of_own hX.row).formF
  rw [pvs_length] at hX
  have c3 : w.cell? ⟨gb, 3, none⟩ = some (.slice a xs.length c) := hX.blk.cell 3
  rw [hle] at hs hl ⊢
  have HCall : Hid _ := held_any xs p (.slice a xs.length c) (by rwa [enYs_length] at hl) hs w (RdC.of_own hX.row) hX.ent.enF
  generalize ((hdB (enYs xs) p : Nat) : Int) = r at HCall ⊢
  generalize xs.length = n at HCall c3
  clear hX hs hl hle hc3
  go_enter Try.func22, Try.ntmps22
  go_wp2_with fail
  refine Calls.mono HCall.out ?_
  rintro e w5 ⟨rfl, b5⟩
  go_wp2
  go_ret
  exact ⟨rfl, b5⟩
set_option maxRecDepth 100000 in
set_option maxHeartbeats 4000000 in
theorem bcount_any (bf : Bf) (gb : Nat) (K : Nat → Prop) (w : World) (hB : BuP K w gb bf) :
    Calls Try.prog 21 #[pV gb] w fun e w' => e = .returned (.int .i64 (bf.l.length : Int)) ∧ w' = w := by
  obtain ⟨ve, xs, hX⟩ := hB
  have hle : bf.l = enYs xs := hX.l
  obtain ⟨a, c, rfl, -, hc3, -⟩ := (RdC.of_own hX.row).formF
  rw [pvs_length] at hX
  have c3 : w.cell? ⟨gb, 3, none⟩ = some (.slice a xs.length c) := hX.blk.cell 3
  rw [hle, enYs_length]
  generalize xs.length = n at c3 ⊢
  clear hX hle hc3
  go_enter Try.func21, Try.ntmps21
  go_wp2
  go_ret
  exact ⟨rfl, rfl⟩
/-! ### A buffer that is none -/
set_option maxRecDepth 100000 in
set_option maxHeartbeats 4000000 in
theorem expire_none (now : Int) (w : World) : Calls Try.prog 13 #[.pointer none, .int .u64 now] w fun e w' => e = .returned (.tuple #[]) ∧ Below w.heap.size w w' := by
  go_enter Try.func13, Try.ntmps13
  go_wp2_with (refine wpList_box_v19 rfl 34 _ rfl (.pointer none) rfl (by rfl) ?_)
  intro w1 r1 b1 s1
  go_wp2_with (refine wpList_box_v19 rfl 32 _ rfl (.int .u64 now) rfl (by rfl) ?_)
  intro w2 r2 b2 s2
  have k2 : w2.cell? ⟨w.heap.size, 0, none⟩ = some (.pointer none) := (r1.kept b2).cell 0
  have hb := stepB b1 b2
  clear b1 b2 r1 r2 s1 s2
  go_wp2
  try simp only [Exit.inBlock, Exit.then]
  refine bodyPost_ret (results_none rfl _ _ _) rfl ?_
  exact ⟨rfl, hb⟩
set_option maxRecDepth 100000 in
set_option maxHeartbeats 4000000 in
theorem drop_none (p : List UInt8) (w : World) : Calls Try.prog 15 #[.pointer none, .string ⟨p.toArray⟩] w fun e w' => e = .returned (.tuple #[]) ∧ Below w.heap.size w w' := by
  go_enter Try.func15, Try.ntmps15
  go_wp2_with (refine wpList_box_v19 rfl 9 _ rfl (.string ⟨p.toArray⟩) rfl (boxS19 _ _) ?_)
  intro w1 r1 b1 s1
  clear r1 s1
  go_wp2
  try simp only [Exit.inBlock, Exit.then]
  refine bodyPost_ret (results_none rfl _ _ _) rfl ?_
  exact ⟨rfl, b1⟩
set_option maxRecDepth 100000 in
set_option maxHeartbeats 4000000 in
theorem total_none (w : World) : Calls Try.prog 19 #[.pointer none] w fun e w' => e = .returned (.int .i64 0) ∧ w' = w := by
  go_enter Try.func19, Try.ntmps19
  go_wp2
  go_ret
  exact ⟨rfl, rfl⟩
set_option maxRecDepth 100000 in
set_option maxHeartbeats 4000000 in
theorem count_none (w : World) : Calls Try.prog 21 #[.pointer none] w fun e w' => e = .returned (.int .i64 0) ∧ w' = w := by
  go_enter Try.func21, Try.ntmps21
  go_wp2
  go_ret
  exact ⟨rfl, rfl⟩
set_option maxRecDepth 100000 in
set_option maxHeartbeats 4000000 in
theorem held_none (p : List UInt8) (w : World) : Calls Try.prog 22 #[.pointer none, .string ⟨p.toArray⟩] w fun e w' => e = .returned (.int .i64 0) ∧ w' = w := by
  go_enter Try.func22, Try.ntmps22
  go_wp2
  go_ret
  exact ⟨rfl, rfl⟩
end Go.Proofs.Ytkljklfejaojaaa
