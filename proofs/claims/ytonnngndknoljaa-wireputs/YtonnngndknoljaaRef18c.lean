/- A packet's bytes, and those for which its code stands: contracts of the reference of layer 18, third part. -/
import Derived.Test.YtonnngndknoljaaRef18a
import Derived.Test.YtonnngndknoljaaReg
namespace Go.Proofs.Ytonnngndknoljaa
open Go.ChangeShapes Go.WideShapes Go.ChangeAt Go.RowKit
set_option linter.unusedSimpArgs false
set_option linter.unusedVariables false

theorem cell18 {w W : World} {p : Addr} {v : Value} (h : w.cell? p = some v) (hb : Below w.heap.size w W) : W.cell? p = some v := by
  rw [hb.cell (World.block_lt_of_cell? w _ h)]
  exact h
/-- A row of one byte that is made. -/
theorem New.lit18 {e : TypeId} {w : World} {x : Int} (b : UInt8) (hx : x = (b.toNat : Int)) : New e w (.slice (some ⟨w.heap.size, 0, none⟩) 1 1) [b] (w.alloc (.cells #[.int .u8 x] e)) := by
  subst hx
  exact ⟨World.ownsRow_lit w #[bv b] 1 (Nat.le_refl _) (by simp [maxLen]) (by simp), growB _⟩
theorem Rd.lit3 {w : World} {e : TypeId} {x y z : Int} (a b c : UInt8) (hx : x = (a.toNat : Int)) (hy : y = (b.toNat : Int)) (hz : z = (c.toNat : Int)) : Rd (w.alloc (.cells #[.int .u8 x, .int .u8 y, .int .u8 z] e)) (.slice (some ⟨w.heap.size, 0, none⟩) 3 3) [a, b, c] := by
  subst hx hy hz
  exact Rd.of_row (base := w.heap.size) (World.ownsRow_lit w #[bv a, bv b, bv c] 3 (Nat.le_refl _) (by simp [maxLen]) (by simp))
/-- A row of bytes that is written out. -/
theorem wpList_litB {P : Program} {ops : Array Oper} {rest : List Oper} {op : Oper} {a : Act} {w : World} {Q : Exit → Act → World → Prop} (hgd : op.guard = none) (t : TypeId) (n : Nat) (ps : Array (Nat × Operand)) (ho : op.op = .buildSlice t n ps)
    (vs : Array (Nat × Value)) (hv : ps.map (fun p => (p.1, a.eval p.2)) = vs) (e : TypeId) (l : List UInt8) (hl : l.length = n) (hm : n ≤ 1000) (hrun : (Instr.buildSlice t n vs).run P w = .ok (.slice (some ⟨w.heap.size, 0, none⟩) n n) (w.alloc (.cells (l.map bv).toArray e)))
    (h : ∀ v w', New e w v l w' → wpList P ops Q rest (a.put op.dst v) w') : wpList P ops Q (op :: rest) a w := by
  refine wpList_plain hgd fun K hK => ?_
  unfold Oper.wp execOp
  have hv' : Array.map (fun x => match x with | (i, x) => (i, a.eval x)) ps = vs := hv
  simp only [ho, hv', Sem.run_bind, hrun, Result.andThen_ok, Sem.run_pure]
  subst hl
  exact hK _ _ (h _ _ ⟨World.ownsRow_lit w (l.map bv).toArray l.length (Nat.le_refl _) (by unfold maxLen; omega) (by simp), growB _⟩)
theorem lit_one (x : Int) (w : World) : (Instr.buildSlice 23 1 #[(0, .int .u8 x)]).run Try.prog w = .ok (.slice (some ⟨w.heap.size, 0, none⟩) 1 1) (w.alloc (.cells #[.int .u8 x] 5)) := by kernel_rfl
theorem lit_three (x y z : Int) (w : World) : (Instr.buildSlice 23 3 #[(0, .int .u8 x), (1, .int .u8 y), (2, .int .u8 z)]).run Try.prog w = .ok (.slice (some ⟨w.heap.size, 0, none⟩) 3 3) (w.alloc (.cells #[.int .u8 x, .int .u8 y, .int .u8 z] 5)) := by kernel_rfl
theorem lit_one8 (k x : Int) (hx : x = k % 256) (w : World) : (Instr.buildSlice 23 1 #[(0, .int .u8 x)]).run Try.prog w = .ok (.slice (some ⟨w.heap.size, 0, none⟩) 1 1) (w.alloc (.cells ([b8 k].map bv).toArray 5)) := by
  rw [lit_one, hx, ← b8_toNat]
  rfl
theorem lit_three8 (k1 k2 k3 : Int) (w : World) : (Instr.buildSlice 23 3 #[(0, .int .u8 (k1 % 256)), (1, .int .u8 (k2 % 256)), (2, .int .u8 (k3 % 256))]).run Try.prog w = .ok (.slice (some ⟨w.heap.size, 0, none⟩) 3 3) (w.alloc (.cells ([b8 k1, b8 k2, b8 k3].map bv).toArray 5)) := by
  rw [lit_three, ← b8_toNat, ← b8_toNat, ← b8_toNat]
  rfl
theorem leB_length (n x : Nat) : (leB n x).length = n := by simp [leB]

set_option maxRecDepth 100000 in
set_option maxHeartbeats 8000000 in
theorem put18_any (p : Pkt) (hw : PkW p) (hk : p.kind = 1 ∨ p.kind = 2 ∨ p.kind = 3 ∨ p.kind = 4) (hl1 : p.mac.length ≤ 100000) (hl2 : p.body.length ≤ 100000) (vm vb : Value) (A : Array Value) (hA : A = (pkC p vm vb).toArray) (w : World) (hr : PkR w p vm vb) :
    Calls Try.prog 13 #[.agg A] w fun e w' => ∃ v, e = .returned v ∧ New 5 w v (putL p) w' := by
  obtain ⟨kind, fr, tt, msg, part, parts, mac, ctr, body⟩ := p
  have HA : Hid (A = [.int .i64 kind, .int .u32 (fr : Int), .int .u32 (tt : Int), .int .i64 msg, .int .i64 part, .int .i64 parts, vm, .int .u64 (ctr : Int), vb].toArray) := hA
  have HP1 : Hid (Rd w vm mac) := hr.mac
  have HP2 : Hid (Rd w vb body) := hr.body
  obtain ⟨-, h1, h2, h3, h4, h5, h6⟩ := hw
  have h1 : fr < 4294967296 := h1
  have h2 : tt < 4294967296 := h2
  have h6 : ctr < 18446744073709551616 := h6
  have HF : Hid (fr < 18446744073709551616) := (by omega : fr < 18446744073709551616)
  have HT : Hid (tt < 18446744073709551616) := (by omega : tt < 18446744073709551616)
  have HC : Hid (ctr < 18446744073709551616) := h6
  have q1 : IntKind.u64.wrap (fr : Int) = (fr : Int) := by rw [IntKind.wrap_u64]; omega
  have q2 : IntKind.u64.wrap (tt : Int) = (tt : Int) := by rw [IntKind.wrap_u64]; omega
  have HL1 : Hid (mac.length ≤ 100000) := hl1
  have HL2 : Hid (body.length ≤ 100000) := hl2
  have h4b : ([b8 1] : List UInt8).length = 1 := rfl
  replace hk : kind = 1 ∨ kind = 2 ∨ kind = 3 ∨ kind = 4 := hk
  obtain ⟨PL, hPL⟩ : ∃ P, P = putL ⟨kind, fr, tt, msg, part, parts, mac, ctr, body⟩ := ⟨_, rfl⟩
  rw [← hPL]
  have HPL : Hid (PL = [b8 kind] ++ (if kind = 1 then leB 4 fr else []) ++ leB 4 tt ++ (if kind = 1 then [b8 msg, b8 part, b8 parts] else []) ++ mac ++ (if 2 < kind then leB 8 ctr else []) ++ body) := hPL
  clear hA hr h1 h2 h3 h4 h5 h6 hl1 hl2 hPL
  go_enter Try.func13, Try.ntmps13
  go_wp2_with (refine wpList_box_blk rfl 28 _ rfl [.int .i64 kind, .int .u32 (fr : Int), .int .u32 (tt : Int), .int .i64 msg, .int .i64 part, .int .i64 parts, vm, .int .u64 (ctr : Int), vb] (by rw [← HA.out]; rfl) ?_)
  intro w1 r1 b1 s1
  obtain ⟨g, hg⟩ : ∃ n : Nat, n = w.heap.size := ⟨_, rfl⟩
  rw [← hg] at r1 ⊢
  have HB1 : Hid (Below w.heap.size w w1) := b1
  have c0 : w1.cell? ⟨g, 0, none⟩ = some (.int .i64 kind) := r1.cell 0
  have c1 : w1.cell? ⟨g, 1, none⟩ = some (.int .u32 (fr : Int)) := r1.cell 1
  have c2 : w1.cell? ⟨g, 2, none⟩ = some (.int .u32 (tt : Int)) := r1.cell 2
  have c3 : w1.cell? ⟨g, 3, none⟩ = some (.int .i64 msg) := r1.cell 3
  have c4 : w1.cell? ⟨g, 4, none⟩ = some (.int .i64 part) := r1.cell 4
  have c5 : w1.cell? ⟨g, 5, none⟩ = some (.int .i64 parts) := r1.cell 5
  have c6 : w1.cell? ⟨g, 6, none⟩ = some vm := r1.cell 6
  have c7 : w1.cell? ⟨g, 7, none⟩ = some (.int .u64 (ctr : Int)) := r1.cell 7
  have c8 : w1.cell? ⟨g, 8, none⟩ = some vb := r1.cell 8
  have HM1 : Hid (Rd w1 vm mac) := HP1.out.kept b1
  have HM2 : Hid (Rd w1 vb body) := HP2.out.kept b1
  clear r1 b1 s1 hg HA HP1 HP2
  rcases hk with rfl | rfl | rfl | rfl
  · have a0 := cell18 c0 (growB (.cells #[.int .u8 1] 5))
    have a1 := cell18 c1 (growB (.cells #[.int .u8 1] 5))
    have aN : New 5 w1 (.slice (some ⟨w1.heap.size, 0, none⟩) 1 1) [b8 1] (w1.alloc (.cells #[.int .u8 1] 5)) := New.lit18 (b8 1) (by decide)
    go_wp2_with fail
    refine (refstore_k fr HF.out 4 4 (by decide) (by omega) _).mono ?_
    rintro e wa ⟨wav, rfl, waN⟩
    have waA := aN.kept waN.2
    have waR : Rd wa wav (leB 4 fr) := waN.rd
    clear aN waN a0 a1
    go_wp2_with (at_builtin; go_must (refine wpList_append_new (w := w1) rfl _ _ 23 rfl 5 Try.underlying23 infoU8 _ _ rfl waA _ _ rfl waR (by have := HL1.out; have := HL2.out; simp [leB_length] <;> omega) ?_))
    intro wbv wb wbN _
    have wbc2 := cell18 c2 wbN.2
    clear waA waR
    go_wp2_with fail
    refine (refstore_k tt HT.out 4 4 (by decide) (by omega) _).mono ?_
    rintro e wc ⟨wcv, rfl, wcN⟩
    have wcA := wbN.kept wcN.2
    have wcR : Rd wc wcv (leB 4 tt) := wcN.rd
    clear wbN wcN wbc2
    go_wp2_with (at_builtin; go_must (refine wpList_append_new (w := w1) rfl _ _ 23 rfl 5 Try.underlying23 infoU8 _ _ rfl wcA _ _ rfl wcR (by have := HL1.out; have := HL2.out; simp [leB_length] <;> omega) ?_))
    intro wdv wd wdN _
    have wdc0 := cell18 c0 wdN.2
    have wdc3 := cell18 c3 wdN.2
    have wdc4 := cell18 c4 wdN.2
    have wdc5 := cell18 c5 wdN.2
    clear wcA wcR
    have xc6 := cell18 (cell18 c6 wdN.2) (growB (.cells #[.int .u8 (msg % 256), .int .u8 (part % 256), .int .u8 (parts % 256)] 5))
    have xR : Rd (wd.alloc (.cells #[.int .u8 (msg % 256), .int .u8 (part % 256), .int .u8 (parts % 256)] 5)) (.slice (some ⟨wd.heap.size, 0, none⟩) 3 3) [b8 msg, b8 part, b8 parts] := Rd.lit3 _ _ _ (b8_toNat _).symm (b8_toNat _).symm (b8_toNat _).symm
    have xN := wdN.alloc (.cells #[.int .u8 (msg % 256), .int .u8 (part % 256), .int .u8 (parts % 256)] 5)
    clear wdN
    go_wp2_with (at_builtin; go_must (refine wpList_append_new (w := w1) rfl _ _ 23 rfl 5 Try.underlying23 infoU8 _ _ rfl xN _ _ rfl xR (by have := HL1.out; have := HL2.out; simp [leB_length] <;> omega) ?_))
    intro wev we weN _
    have wec0 := cell18 c0 weN.2
    have wec6 := cell18 c6 weN.2
    clear xR xN xc6
    have weR := HM1.out.kept weN.2
    go_wp2_with (at_builtin; go_must (refine wpList_append_new (w := w1) rfl _ _ 23 rfl 5 Try.underlying23 infoU8 _ _ rfl weN _ _ rfl weR (by have := HL1.out; have := HL2.out; simp [leB_length] <;> omega) ?_))
    intro wfv wf wfN _
    have wfc0 := cell18 c0 wfN.2
    have wfc8 := cell18 c8 wfN.2
    clear weN weR
    have wfR := HM2.out.kept wfN.2
    go_wp2_with (at_builtin; go_must (refine wpList_append_new (w := w1) rfl _ _ 23 rfl 5 Try.underlying23 infoU8 _ _ rfl wfN _ _ rfl wfR (by have := HL1.out; have := HL2.out; simp [leB_length] <;> omega) ?_))
    intro wgv wg wgN _
    clear wfN wfR
    go_wp2
    go_ret
    refine ⟨_, rfl, ?_⟩
    rw [HPL.out]
    simpa using wgN.from HB1.out
  · have a0 := cell18 c0 (growB (.cells #[.int .u8 2] 5))
    have a2 := cell18 c2 (growB (.cells #[.int .u8 2] 5))
    have aN : New 5 w1 (.slice (some ⟨w1.heap.size, 0, none⟩) 1 1) [b8 2] (w1.alloc (.cells #[.int .u8 2] 5)) := New.lit18 (b8 2) (by decide)
    go_wp2_with fail
    refine (refstore_k tt HT.out 4 4 (by decide) (by omega) _).mono ?_
    rintro e wa ⟨wav, rfl, waN⟩
    have waA := aN.kept waN.2
    have waR : Rd wa wav (leB 4 tt) := waN.rd
    clear aN waN a0 a2
    go_wp2_with (at_builtin; go_must (refine wpList_append_new (w := w1) rfl _ _ 23 rfl 5 Try.underlying23 infoU8 _ _ rfl waA _ _ rfl waR (by have := HL1.out; have := HL2.out; simp [leB_length] <;> omega) ?_))
    intro wbv wb wbN _
    have wbc0 := cell18 c0 wbN.2
    have wbc6 := cell18 c6 wbN.2
    clear waA waR
    have wbR := HM1.out.kept wbN.2
    go_wp2_with (at_builtin; go_must (refine wpList_append_new (w := w1) rfl _ _ 23 rfl 5 Try.underlying23 infoU8 _ _ rfl wbN _ _ rfl wbR (by have := HL1.out; have := HL2.out; simp [leB_length] <;> omega) ?_))
    intro wcv wc wcN _
    have wcc0 := cell18 c0 wcN.2
    have wcc7 := cell18 c7 wcN.2
    have wcc8 := cell18 c8 wcN.2
    clear wbN wbR
    have wcR := HM2.out.kept wcN.2
    go_wp2_with (at_builtin; go_must (refine wpList_append_new (w := w1) rfl _ _ 23 rfl 5 Try.underlying23 infoU8 _ _ rfl wcN _ _ rfl wcR (by have := HL1.out; have := HL2.out; simp [leB_length] <;> omega) ?_))
    intro wgv wg wgN _
    clear wcN wcR
    go_wp2
    go_ret
    refine ⟨_, rfl, ?_⟩
    rw [HPL.out]
    simpa using wgN.from HB1.out
  · have a0 := cell18 c0 (growB (.cells #[.int .u8 3] 5))
    have a2 := cell18 c2 (growB (.cells #[.int .u8 3] 5))
    have aN : New 5 w1 (.slice (some ⟨w1.heap.size, 0, none⟩) 1 1) [b8 3] (w1.alloc (.cells #[.int .u8 3] 5)) := New.lit18 (b8 3) (by decide)
    go_wp2_with fail
    refine (refstore_k tt HT.out 4 4 (by decide) (by omega) _).mono ?_
    rintro e wa ⟨wav, rfl, waN⟩
    have waA := aN.kept waN.2
    have waR : Rd wa wav (leB 4 tt) := waN.rd
    clear aN waN a0 a2
    go_wp2_with (at_builtin; go_must (refine wpList_append_new (w := w1) rfl _ _ 23 rfl 5 Try.underlying23 infoU8 _ _ rfl waA _ _ rfl waR (by have := HL1.out; have := HL2.out; simp [leB_length] <;> omega) ?_))
    intro wbv wb wbN _
    have wbc0 := cell18 c0 wbN.2
    have wbc6 := cell18 c6 wbN.2
    clear waA waR
    have wbR := HM1.out.kept wbN.2
    go_wp2_with (at_builtin; go_must (refine wpList_append_new (w := w1) rfl _ _ 23 rfl 5 Try.underlying23 infoU8 _ _ rfl wbN _ _ rfl wbR (by have := HL1.out; have := HL2.out; simp [leB_length] <;> omega) ?_))
    intro wcv wc wcN _
    have wcc0 := cell18 c0 wcN.2
    have wcc7 := cell18 c7 wcN.2
    have wcc8 := cell18 c8 wcN.2
    clear wbN wbR
    go_wp2_with fail
    refine (refstore_k ctr HC.out 8 8 (by decide) (by omega) _).mono ?_
    rintro e wd ⟨wdv, rfl, wdN⟩
    have wdA := wcN.kept wdN.2
    have wdR : Rd wd wdv (leB 8 ctr) := wdN.rd
    clear wcN wdN wcc0 wcc7 wcc8
    go_wp2_with (at_builtin; go_must (refine wpList_append_new (w := w1) rfl _ _ 23 rfl 5 Try.underlying23 infoU8 _ _ rfl wdA _ _ rfl wdR (by have := HL1.out; have := HL2.out; simp [leB_length] <;> omega) ?_))
    intro wev we weN _
    have wec8 := cell18 c8 weN.2
    clear wdA wdR
    have weR := HM2.out.kept weN.2
    go_wp2_with (at_builtin; go_must (refine wpList_append_new (w := w1) rfl _ _ 23 rfl 5 Try.underlying23 infoU8 _ _ rfl weN _ _ rfl weR (by have := HL1.out; have := HL2.out; simp [leB_length] <;> omega) ?_))
    intro wgv wg wgN _
    clear weN weR
    go_wp2
    go_ret
    refine ⟨_, rfl, ?_⟩
    rw [HPL.out]
    simpa using wgN.from HB1.out
  · have a0 := cell18 c0 (growB (.cells #[.int .u8 4] 5))
    have a2 := cell18 c2 (growB (.cells #[.int .u8 4] 5))
    have aN : New 5 w1 (.slice (some ⟨w1.heap.size, 0, none⟩) 1 1) [b8 4] (w1.alloc (.cells #[.int .u8 4] 5)) := New.lit18 (b8 4) (by decide)
    go_wp2_with fail
    refine (refstore_k tt HT.out 4 4 (by decide) (by omega) _).mono ?_
    rintro e wa ⟨wav, rfl, waN⟩
    have waA := aN.kept waN.2
    have waR : Rd wa wav (leB 4 tt) := waN.rd
    clear aN waN a0 a2
    go_wp2_with (at_builtin; go_must (refine wpList_append_new (w := w1) rfl _ _ 23 rfl 5 Try.underlying23 infoU8 _ _ rfl waA _ _ rfl waR (by have := HL1.out; have := HL2.out; simp [leB_length] <;> omega) ?_))
    intro wbv wb wbN _
    have wbc0 := cell18 c0 wbN.2
    have wbc6 := cell18 c6 wbN.2
    clear waA waR
    have wbR := HM1.out.kept wbN.2
    go_wp2_with (at_builtin; go_must (refine wpList_append_new (w := w1) rfl _ _ 23 rfl 5 Try.underlying23 infoU8 _ _ rfl wbN _ _ rfl wbR (by have := HL1.out; have := HL2.out; simp [leB_length] <;> omega) ?_))
    intro wcv wc wcN _
    have wcc0 := cell18 c0 wcN.2
    have wcc7 := cell18 c7 wcN.2
    have wcc8 := cell18 c8 wcN.2
    clear wbN wbR
    go_wp2_with fail
    refine (refstore_k ctr HC.out 8 8 (by decide) (by omega) _).mono ?_
    rintro e wd ⟨wdv, rfl, wdN⟩
    have wdA := wcN.kept wdN.2
    have wdR : Rd wd wdv (leB 8 ctr) := wdN.rd
    clear wcN wdN wcc0 wcc7 wcc8
    go_wp2_with (at_builtin; go_must (refine wpList_append_new (w := w1) rfl _ _ 23 rfl 5 Try.underlying23 infoU8 _ _ rfl wdA _ _ rfl wdR (by have := HL1.out; have := HL2.out; simp [leB_length] <;> omega) ?_))
    intro wev we weN _
    have wec8 := cell18 c8 weN.2
    clear wdA wdR
    have weR := HM2.out.kept weN.2
    go_wp2_with (at_builtin; go_must (refine wpList_append_new (w := w1) rfl _ _ 23 rfl 5 Try.underlying23 infoU8 _ _ rfl weN _ _ rfl weR (by have := HL1.out; have := HL2.out; simp [leB_length] <;> omega) ?_))
    intro wgv wg wgN _
    clear weN weR
    go_wp2
    go_ret
    refine ⟨_, rfl, ?_⟩
    rw [HPL.out]
    simpa using wgN.from HB1.out

theorem info_pk : (Try.prog.info? 28).map (·.size) = some 9 := by kernel_rfl
theorem putL_length {p : Pkt} (h : mayB p = true) (h1 : p.kind = 1) : 28 < (putL p).length ∧ (putL p).length ≤ 1052 := by
  have h : mayP p := by unfold mayB at h; exact of_decide_eq_true h
  rcases h with ⟨h2, h3⟩ | ⟨h2, -⟩ | ⟨h2, -⟩ | ⟨h2, -⟩
  · unfold mayF at h3
    unfold putL
    rw [if_pos h1, if_pos h1, if_neg (by omega)]
    simp only [List.length_append, leB_length, List.length_cons, List.length_nil]
    omega
  all_goals omega
theorem mayB_kind {p : Pkt} (h : mayB p = true) : p.kind = 1 ∨ p.kind = 2 ∨ p.kind = 3 ∨ p.kind = 4 := by
  have h : mayP p := by unfold mayB at h; exact of_decide_eq_true h
  rcases h with ⟨h2, -⟩ | ⟨h2, -⟩ | ⟨h2, -⟩ | ⟨h2, -⟩ <;> simp [h2]

set_option maxRecDepth 100000 in
set_option maxHeartbeats 8000000 in
theorem signed18_any (p : Pkt) (hw : PkW p) (hl1 : p.mac.length ≤ 100000) (hl2 : p.body.length ≤ 100000) (vm vb : Value) (A : Array Value) (hA : A = (pkC p vm vb).toArray) (w : World) (hr : PkR w p vm vb) :
    Calls Try.prog 12 #[.agg A] w fun e w' => ∃ v, e = .returned v ∧ Rd w' v (sgL p) ∧ Below w.heap.size w w' := by
  have HA : Hid (A = (pkC p vm vb).toArray) := hA
  have HY : Hid (sgL p = if mayB p = true ∧ p.kind = 1 then (putL p).take 12 ++ (putL p).drop 28 else []) := rfl
  have HR : Hid (PkR w p vm vb) := hr
  have HPu : Hid (mayB p = true → ∀ W, Below w.heap.size w W → Calls Try.prog 13 #[.agg (pkC p vm vb).toArray] W fun e w' => ∃ v, e = .returned v ∧ New 5 W v (putL p) w') := fun h W hb => put18_any p hw (mayB_kind h) hl1 hl2 vm vb _ rfl W (hr.kept hb)
  have HLn : Hid (mayB p = true → p.kind = 1 → 28 < (putL p).length ∧ (putL p).length ≤ 1052) := fun h h1 => putL_length h h1
  have HMy : Hid (∀ W, Below w.heap.size w W → Calls Try.prog 10 #[.agg (pkC p vm vb).toArray] W fun e w' => e = .returned (.bool (mayB p)) ∧ Below W.heap.size W w') := fun W hb => may18_any p vm vb _ rfl W (hr.kept hb)
  obtain ⟨PC, hPC⟩ : ∃ l : List Value, l = pkC p vm vb := ⟨_, rfl⟩
  have hpl : PC.length = 9 := by rw [hPC]; rfl
  obtain ⟨k, hk⟩ : ∃ k : Int, k = p.kind := ⟨_, rfl⟩
  have hk0 : PC[0]? = some (.int .i64 k) := by rw [hPC, hk]; rfl
  have hi : (Try.prog.info? 28).map (·.size) = some PC.length := by rw [hpl]; exact info_pk
  rw [← hPC] at HA HPu HMy
  rw [← hk] at HY HLn
  generalize sgL p = R at HY ⊢
  generalize mayB p = mb at HY HLn HPu HMy
  generalize putL p = PL at HY HLn HPu
  clear hA hr hl1 hl2 hw hPC hk hpl
  go_enter Try.func12, Try.ntmps12
  go_wp2_with (refine wpList_box_blk rfl 28 _ rfl PC (by rw [← HA.out]; rfl) ?_)
  intro w1 r1 b1 s1
  have HB1 : Hid (Below w.heap.size w w1) := b1
  obtain ⟨g, hg⟩ : ∃ n : Nat, n = w.heap.size := ⟨_, rfl⟩
  rw [← hg] at r1 ⊢
  have R1 : Hid (BlkAt g 28 PC w1) := r1
  clear b1 s1 hg HA r1
  go_wp2_with (refine wpList_load_part rfl 28 _ rfl rfl [] PC [] R1.out (by simp) rfl Try.underlying28 rfl hi ?_)
  refine (HMy.out _ HB1.out).mono ?_
  rintro e w2 ⟨rfl, b2⟩
  have R2 : Hid (BlkAt g 28 PC w2) := R1.out.kept b2
  have c0 : w2.cell? ⟨g, 0, none⟩ = some (.int .i64 k) := by rw [R2.out.cell]; exact hk0
  have HB2 : Hid (Below w.heap.size w w2) := stepB HB1.out b2
  clear b2 R1 HB1 HMy
  cases mb
  · have HE : Hid (R = []) := (by rw [HY.out]; simp : R = [])
    clear HY HPu HLn hi hk0
    go_wp2
    go_ret
    exact ⟨_, rfl, by rw [HE.out]; exact Rd.nil _, HB2.out⟩
  by_cases hk : k = 1
  rotate_left
  · have d : (k != 1) = true := by simpa using hk
    have HE : Hid (R = []) := (by rw [HY.out]; simp [hk] : R = [])
    clear HY HPu HLn hi hk0 hk
    go_wp2
    go_ret
    exact ⟨_, rfl, by rw [HE.out]; exact Rd.nil _, HB2.out⟩
  have d : (k != 1) = false := by simpa using hk
  have HE : Hid (R = PL.take 12 ++ PL.drop 28) := (by rw [HY.out, if_pos ⟨rfl, hk⟩] : R = PL.take 12 ++ PL.drop 28)
  obtain ⟨l1, l2⟩ := HLn.out (by trivial) hk
  clear HY HLn hk0 hk
  go_wp2_with (refine wpList_load_part rfl 28 _ rfl rfl [] PC [] R2.out (by simp) rfl Try.underlying28 rfl hi ?_)
  refine (HPu.out (by trivial) _ HB2.out).mono ?_
  rintro e w3 ⟨v3, rfl, hN3⟩
  have HB3 : Hid (Below w.heap.size w w3) := stepB HB2.out hN3.2
  obtain ⟨b, o, c, rfl, hc, -⟩ := hN3.rd.cellAt (i := 0) (by omega)
  obtain ⟨L, hL⟩ : ∃ n : Nat, n = PL.length := ⟨_, rfl⟩
  have hR := hN3.rd
  have hc2 : c ≤ maxLen := by obtain ⟨a', c', e', -, h3, -⟩ := hR; simp only [Value.slice.injEq] at e'; omega
  unfold maxLen at hc2
  rw [← hL] at l1 l2 hc hR ⊢
  have HS1 : Hid (Rd w3 (.slice (some ⟨b, o, none⟩) 12 c) (PL.take 12)) := hR.take (by omega)
  have HS2 : Hid (Rd w3 (.slice (some ⟨b, o + 28, none⟩) (L - 28) (c - 28)) (PL.drop 28)) := by
    have h := hR.sub 28 L (by omega) (Nat.le_refl _)
    rw [List.take_of_length_le (by rw [List.length_drop]; omega)] at h
    exact h
  have HLt : Hid ((PL.take 12).length + (PL.drop 28).length ≤ 140737488355328) := by show _ ≤ _; simp; omega
  have i1 : (12 : Int) ≤ (c : Int) := by omega
  have i2 : (28 : Int) ≤ (L : Int) := by omega
  have i3 : (L : Int) ≤ (c : Int) := by omega
  have i4 : ¬ c = 28 := by omega
  have i5 : 12 ≤ c := by omega
  have i6 : 28 ≤ L := by omega
  have i7 : L ≤ c := by omega
  clear hN3 hR hL R2 c0 HPu HB2 hi l1 l2
  go_wp2_with fail
  refine wpG_begin (by kernel_rfl) ?_
  refine gU_ 0 rfl ⟨_, by intro W hW; go_simp <;> with_reducible rfl, ?_⟩
  try simp only [Act.put, pA_, pB_, pC_]
  refine gU_ 1 rfl ⟨_, by intro W hW; go_simp <;> with_reducible rfl, ?_⟩
  try simp only [Act.put, pA_, pB_, pC_]
  refine gU_ 2 rfl ⟨_, by intro W hW; go_simp <;> with_reducible rfl, ?_⟩
  try simp only [Act.put, pA_, pB_, pC_]
  refine gU_ 3 rfl ⟨_, by intro W hW; go_simp <;> with_reducible rfl, ?_⟩
  try simp only [Act.put, pA_, pB_, pC_]
  refine gD_ 4 fun K hK => ?_
  go_simp
  refine (joinR_any _ _ (PL.take 12) (PL.drop 28) HLt.out _ (Rd.kept HS1.out (Below.refl _ _).drew) (Rd.kept HS2.out (Below.refl _ _).drew)).mono ?_
  rintro e w4 ⟨v4, rfl, hN4⟩
  refine hK.out _ _ hN4.2 ?_
  clear hK K
  try simp only [Act.put, pA_, pB_, pC_]
  refine gU_ 5 rfl ⟨_, by intro W hW; go_simp <;> with_reducible rfl, ?_⟩
  try simp only [Act.put, pA_, pB_, pC_]
  refine wpG_done (by kernel_rfl) ?_
  go_wp2
  go_ret
  exact ⟨_, rfl, by rw [HE.out]; exact hN4.rd, stepB HB3.out.drew hN4.2⟩
end Go.Proofs.Ytonnngndknoljaa
