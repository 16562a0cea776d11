/- Bytes as a packet: contracts of package wire, fourth part. -/
import Derived.Test.YtonnngndknoljaaWr18c
import Derived.Test.YtonnngndknoljaaWrMath3
import Derived.Test.YtonnngndknoljaaRef18d
namespace Go.Proofs.Ytonnngndknoljaa
open Go.ChangeShapes Go.WideShapes Go.ChangeAt Go.RowKit
set_option linter.unusedSimpArgs false
set_option linter.unusedVariables false

theorem boxS18 (a : Option Addr) (n c : Nat) (w : World) : (Instr.box 23 (.slice a n c)).run Try.prog w = .ok (.pointer (some ⟨w.heap.size, 0, none⟩)) (w.alloc (.cells #[.slice a n c] 23)) := rfl
theorem mkf18 (fn : Fn) (first cap : Array Value) (w : World) : (Instr.makeFunc fn first cap).run Try.prog w = .ok (.func fn first cap) w := rfl
theorem allocF18 (w : World) : (Instr.alloc 53 true (.tuple #[])).run Try.prog w = .ok (.pointer (some ⟨w.heap.size, 0, none⟩)) (w.alloc (.cells ([.nilFunc] : List Value).toArray 53)) := by kernel_rfl
theorem szF18 (w : World) : (sizeOf 53).run Try.prog w = .ok 1 w := by kernel_rfl
theorem alloc_wk (w : World) : (Instr.alloc 26 true (.tuple #[])).run Try.prog w = .ok (.pointer (some ⟨w.heap.size, 0, none⟩)) (w.alloc (.cells zpk.toArray 26)) := by kernel_rfl
theorem build_wk (w : World) : (Instr.build 26 #[]).run Try.prog w = .ok (.agg zpk.toArray) w := by kernel_rfl
theorem build_wk1 (k : Int) (w : World) : (Instr.build 26 #[(0, .int .i64 k)]).run Try.prog w = .ok (.agg (pkC ⟨k, 0, 0, 0, 0, 0, [], 0, []⟩ (.slice none 0 0) (.slice none 0 0)).toArray) w := by kernel_rfl
set_option maxRecDepth 100000 in
/-- A function is stored into a variable. -/
theorem wpList_store_fn18 {ops : Array Oper} {rest : List Oper} {op : Oper} {a : Act} {w : World} {Q : Exit → Act → World → Prop} (hgd : op.guard = none) (ty : TypeId) (x y : Operand) (ho : op.op = .store ty x y) {g : Nat} (hx : a.eval x = .pointer (some ⟨g, 0, none⟩)) (f : Fn) (b c : Array Value) (hy : a.eval y = .func f b c) (hsz : ∀ w : World, (sizeOf ty).run Try.prog w = .ok 1 w)
    {bt : TypeId} {old : Value} (hb : BlkAt g bt [old] w) (h : ∀ w', BlkAt g bt [.func f b c] w' → Wrote g w w' → wpList Try.prog ops Q rest (a.put op.dst undef) w') : wpList Try.prog ops Q (op :: rest) a w := by
  refine wpList_plain hgd fun K hK => ?_
  have hc : w.cell? ⟨g, 0, none⟩ = some old := by rw [hb.cell]; rfl
  have hf := hb.free 0
  have h2 := hK _ _ (h _ (hb.set 0 _) (Wrote.set g 0 w _))
  have hst : ∀ m, (store ⟨g, 0, none⟩ (.func f b c) m).run Try.prog w = .ok () (w.setCell ⟨g, 0, none⟩ (.func f b c)) := fun m => by
    rw [run_store _ _ _ _ _ rfl, hc]
    simp [hf]
  unfold Oper.wp execOp
  simp only [ho, hx, hy]
  go_simp
  exact h2
theorem wpList_box_val18 {P : Program} {ops : Array Oper} {rest : List Oper} {op : Oper} {a : Act} {w : World} {Q : Exit → Act → World → Prop} (hgd : op.guard = none) (ty : TypeId) (x : Operand) (ho : op.op = .box ty x) (v : Value)
    (hx : a.eval x = v) (hrun : (Instr.box ty v).run P w = .ok (.pointer (some ⟨w.heap.size, 0, none⟩)) (w.alloc (.cells #[v] ty)))
    (h : ∀ w', BlkAt w.heap.size ty [v] w' → Below w.heap.size w w' → Hid (w'.heap.size = w.heap.size + 1) → wpList P ops Q rest (a.put op.dst (.pointer (some ⟨w.heap.size, 0, none⟩))) w') : wpList P ops Q (op :: rest) a w := by
  refine wpList_plain hgd fun K hK => ?_
  unfold Oper.wp execOp
  simp only [ho, hx, Sem.run_bind, hrun, Result.andThen_ok, Sem.run_pure]
  exact hK _ _ (h _ (BlkAt.fresh rfl rfl) (growB _) (show _ = _ by simp))
/-- All that the taking apart of bytes holds. -/
structure PtS (w0 : World) (gb gt gr gp : Nat) (l : List UInt8) (L : List Rw) (cs : List Value) (w : World) : Prop where
  tk : Tk w0 gb l L w
  fn : BlkAt gt 53 [tkF gb] w
  res : BlkAt gr 26 zpk w
  pk : BlkAt gp 26 cs w
  ne : gb ≠ gt ∧ gb ≠ gr ∧ gb ≠ gp ∧ gt ≠ gp ∧ gr ≠ gp ∧ gt ≠ gr
  ge : w0.heap.size ≤ gp ∧ w0.heap.size ≤ gr
theorem PtS.call {w0 w w' : World} {gb gt gr gp : Nat} {l l' : List UInt8} {L L' : List Rw} {cs : List Value} (h : PtS w0 gb gt gr gp l L cs w) (ht : Tk w0 gb l' L' w') (hc : Chg (fun k => k = gb) w w') : PtS w0 gb gt gr gp l' L' cs w' :=
  ⟨ht, h.fn.chg hc h.ne.1.symm, h.res.chg hc h.ne.2.1.symm, h.pk.chg hc h.ne.2.2.1.symm, h.ne, h.ge⟩
theorem PtS.put {w0 w w' : World} {gb gt gr gp : Nat} {l : List UInt8} {L : List Rw} {cs cs' : List Value} (h : PtS w0 gb gt gr gp l L cs w) (hb : BlkAt gp 26 cs' w') (hw : Wrote gp w w') : PtS w0 gb gt gr gp l L cs' w' :=
  ⟨h.tk.wrote hw h.pk h.ge.1 (by decide) h.ne.2.2.1, h.fn.wrote hw h.ne.2.2.2.1, h.res.wrote hw h.ne.2.2.2.2.1, hb, h.ne, h.ge⟩
theorem PtS.numb {w0 w : World} {gb gt gr gp : Nat} {l : List UInt8} {L : List Rw} {cs : List Value} (h : PtS w0 gb gt gr gp l L cs w) (hl : l.length ≤ 100000) (x : Int) (n : Nat) (hx : x = (n : Int)) (z : Nat) (hz : z = leN ((l.take n).take 8)) (D : List UInt8) (hD : D = l.drop n) :
    Calls Try.prog 32 #[.int .i64 x, .pointer (some ⟨gt, 0, none⟩)] w fun e w' => e = .returned (.int .u64 (z : Int)) ∧ PtS w0 gb gt gr gp D L cs w' := by
  subst hz hD
  refine (number18_any x n hx gb gt l hl L w0 w h.tk h.fn).mono ?_
  rintro e w' ⟨rfl, h1, h2⟩
  exact ⟨rfl, h.call h1 h2⟩
theorem PtS.takes {w0 w : World} {gb gt gr gp : Nat} {l : List UInt8} {L : List Rw} {cs : List Value} (h : PtS w0 gb gt gr gp l L cs w) (hl : l.length ≤ 100000) (x : Int) (n : Nat) (hx : x = (n : Int)) (K : List UInt8) (hK : K = l.take n) (D : List UInt8) (hD : D = l.drop n) :
    Calls Try.prog 30 #[.int .i64 x, .pointer (some ⟨gb, 0, none⟩)] w fun e w' => ∃ a c, e = .returned (.slice a K.length c) ∧ PtS w0 gb gt gr gp D (Rw.by 5 (.slice a K.length c) K :: L) cs w' := by
  subst hK hD
  refine (take18_any x n hx gb l hl L w0 w h.tk).mono ?_
  rintro e w' ⟨v, rfl, h1, h2⟩
  obtain ⟨a, c, rfl, -⟩ := id h1.own.rd0
  exact ⟨a, c, rfl, h.call h1 h2⟩
theorem PtS.rests {w0 w : World} {gb gt gr gp : Nat} {l : List UInt8} {L : List Rw} {cs : List Value} (h : PtS w0 gb gt gr gp l L cs w) (hl : l.length ≤ 100000) :
    Calls Try.prog 31 #[.pointer (some ⟨gt, 0, none⟩), .pointer (some ⟨gb, 0, none⟩)] w fun e w' => ∃ a c, e = .returned (.slice a l.length c) ∧ PtS w0 gb gt gr gp [] (Rw.by 5 (.slice a l.length c) l :: L) cs w' := by
  refine (rest18_any gb gt l hl L w0 w h.tk h.fn).mono ?_
  rintro e w' ⟨v, rfl, h1, h2⟩
  obtain ⟨a, c, rfl, -⟩ := id h1.own.rd0
  exact ⟨a, c, rfl, h.call h1 h2⟩
theorem drop_drop18 (b : List UInt8) (i n m : Nat) (h : i + n = m) : b.drop m = (b.drop i).drop n := by rw [List.drop_drop, h]

set_option maxRecDepth 100000 in
set_option maxHeartbeats 16000000 in
theorem parted_any (v : Value) (b : List UInt8) (hl : b.length ≤ 100000) (w : World) (hr : Rd w v b) :
    Calls Try.prog 22 #[v] w fun e w' => ∃ vm vb, e = .returned (.agg (pkC (ptP b) vm vb).toArray) ∧ OwnG w [Rw.by 5 vb (ptP b).body, Rw.by 5 vm (ptP b).mac] w' := by
  obtain ⟨ab, cb, rfl, -⟩ := id hr
  obtain ⟨L, hL⟩ : ∃ n : Nat, n = b.length := ⟨_, rfl⟩
  have HR : Hid (Rd w (.slice ab L cb) b) := (by rw [hL]; exact hr : Rd w (.slice ab L cb) b)
  rw [← hL]
  have HL : Hid (∀ i, (b.drop i).length ≤ 100000) := fun i => by rw [List.length_drop]; omega
  have hmf := mkf18
  obtain ⟨k, hk⟩ : ∃ n : Nat, n = nbL b 0 1 := ⟨_, rfl⟩
  have hk8 : k < 256 := by rw [hk]; exact nbL_lt1 b 0
  have hkw : IntKind.i64.wrap (k : Int) = (k : Int) := by rw [IntKind.wrap_i64]; omega
  obtain ⟨PT, hPT⟩ : ∃ P, P = ptP b := ⟨_, rfl⟩
  rw [← hPT]
  have HPT : Hid (PT = ptP b) := hPT
  have HK : Hid (k = nbL b 0 1) := hk
  clear hr hL hl hk hPT
  go_enter Try.func22, Try.ntmps22
  go_wp2_with (refine wpList_box_val18 rfl 23 _ rfl (.slice ab L cb) rfl (boxS18 _ _ _ _) ?_)
  intro w1 r1 b1 s1
  go_wp2_with (refine wpList_alloc_blk rfl 26 rfl zpk (alloc_wk _) ?_)
  intro w2 r2 b2 s2
  obtain ⟨gb, hgb⟩ : ∃ n : Nat, n = w.heap.size := ⟨_, rfl⟩
  obtain ⟨gr, hgr⟩ : ∃ n : Nat, n = w1.heap.size := ⟨_, rfl⟩
  rw [← hgb] at r1 ⊢
  rw [← hgr] at r2 ⊢
  have q1 : BlkAt gb 23 [.slice ab L cb] w2 := r1.kept b2
  have bw2 : Below w.heap.size w w2 := stepB b1 b2
  have l1 : gb < gr := by rw [hgr]; exact r1.lt
  have l0 : w.heap.size ≤ gb := by rw [hgb]; exact Nat.le_refl _
  clear r1 b1 b2 s1 s2 hgb hgr
  go_wp2_with (refine wpList_alloc_blk rfl 53 rfl [.nilFunc] (allocF18 _) ?_)
  intro w3 r3 b3 s3
  obtain ⟨gt, hgt⟩ : ∃ n : Nat, n = w2.heap.size := ⟨_, rfl⟩
  rw [← hgt] at r3 ⊢
  have l2 : gr < gt := by rw [hgt]; exact r2.lt
  clear hgt
  go_wp2_with (refine wpList_store_fn18 rfl 53 _ _ rfl rfl (.func 30) #[] #[.pointer (some ⟨gb, 0, none⟩)] rfl szF18 r3 ?_)
  intro w4 r4 hw4
  have q2 : BlkAt gb 23 [.slice ab L cb] w4 := (q1.kept b3).wrote hw4 (by omega)
  have p2 : BlkAt gr 26 zpk w4 := (r2.kept b3).wrote hw4 (by omega)
  have bw4 : Below w.heap.size w w4 := hw4.below _ _ (by omega) (stepB bw2 b3)
  have HT4 : Hid (Tk w gb b [] w4) := ⟨⟨_, q2, HR.out⟩, l0, OwnG.since bw4, fun p hp => by cases hp⟩
  have HF4 : Hid (BlkAt gt 53 [tkF gb] w4) := r4
  have HP4 : Hid (BlkAt gr 26 zpk w4) := p2
  have HN4 : Hid (w.heap.size ≤ gb ∧ gb < gr ∧ gr < gt) := ⟨l0, l1, l2⟩
  clear q1 q2 p2 r2 r3 r4 b3 s3 hw4 bw2 bw4 l0 l1 l2
  go_wp2_with fail
  refine (number18_any 1 1 (by decide) gb gt b (HL.out 0) [] w _ HT4.out HF4.out).mono ?_
  rintro e w5 ⟨rfl, ht5, hc5⟩
  have e5 : leN ((b.take 1).take 8) = k := HK.out.symm
  rw [e5]
  have HT5 : Hid (Tk w gb (b.drop 1) [] w5) := ht5
  have HF5 : Hid (BlkAt gt 53 [tkF gb] w5) := HF4.out.chg hc5 (by have := HN4.out; omega)
  have HP5 : Hid (BlkAt gr 26 zpk w5) := HP4.out.chg hc5 (by have := HN4.out; omega)
  clear ht5 hc5 e5 HT4 HF4 HP4
  go_wp2_with (first | refine wpList_buildB rfl 26 _ rfl #[(0, .int .i64 (k : Int))] (by go_simp; done) _ (build_wk1 _ _) ?_ | refine wpList_alloc_blk rfl 26 rfl zpk (alloc_wk _) ?_)
  intro w6 r6 b6 s6
  obtain ⟨gp, hgp⟩ : ∃ n : Nat, n = w5.heap.size := ⟨_, rfl⟩
  rw [← hgp] at r6 ⊢
  have l3 : gt < gp := by rw [hgp]; exact HF5.out.lt
  clear hgp
  go_wp2_with (refine wpList_store_part rfl 26 _ _ rfl rfl (pkC ⟨(k : Int), 0, 0, 0, 0, 0, [], 0, []⟩ (.slice none 0 0) (.slice none 0 0)) rfl [] zpk [] (pkC ⟨(k : Int), 0, 0, 0, 0, 0, [], 0, []⟩ (.slice none 0 0) (.slice none 0 0)) r6 (by simp) (by simp) rfl rfl info_wk (one_pk _ _ _ _ _ _ _) ?_)
  intro w7 r7 hw7
  have HS : Hid (PtS w gb gt gr gp (b.drop 1) [] (pkC ⟨(k : Int), 0, 0, 0, 0, 0, [], 0, []⟩ (.slice none 0 0) (.slice none 0 0)) w7) := by
    have hn := HN4.out
    exact ⟨(HT5.out.kept b6).wrote hw7 r6 (by omega) (by decide) (by omega), (HF5.out.kept b6).wrote hw7 (by omega), (HP5.out.kept b6).wrote hw7 (by omega), by simpa using r7, ⟨by omega, by omega, by omega, by omega, by omega, by omega⟩, by omega, by omega⟩
  clear r6 r7 b6 s6 hw7 l3 HT5 HF5 HP5 HN4 HR
  have c0 : w7.cell? ⟨gp, 0, none⟩ = some (.int .i64 (k : Int)) := HS.out.pk.cell 0
  by_cases k1 : k = 1
  · subst k1
    obtain ⟨z0, hz0⟩ : ∃ n : Nat, n = nbL b 1 4 := ⟨_, rfl⟩
    have lz0 : z0 < 4294967296 := by rw [hz0]; exact nbL_lt4 b 1
    have yz0 : IntKind.u32.wrap (z0 : Int) = (z0 : Int) := by rw [IntKind.wrap_u32]; omega
    have Hz0 : Hid (z0 = nbL b 1 4) := hz0
    clear hz0 lz0
    go_wp2_with fail
    refine (HS.out.numb (HL.out 1) 4 4 (by decide) z0 Hz0.out (b.drop 5) (drop_drop18 b 1 4 5 rfl)).mono ?_
    rintro e v0 ⟨rfl, hS0⟩
    have S0 : Hid (PtS w gb gt gr gp (b.drop 5) [] (pkC ⟨1, 0, 0, 0, 0, 0, [], 0, []⟩ (.slice none 0 0) (.slice none 0 0)) v0) := hS0
    clear hS0 HS c0
    go_wp2_with (refine st_u32 rfl _ _ rfl rfl (z0 : Int) rfl S0.out.pk rfl ?_)
    intro u0 r0 hw0
    have T0 : Hid (PtS w gb gt gr gp (b.drop 5) [] (pkC ⟨1, z0, 0, 0, 0, 0, [], 0, []⟩ (.slice none 0 0) (.slice none 0 0)) u0) := S0.out.put r0 hw0
    clear r0 hw0 S0
    obtain ⟨z1, hz1⟩ : ∃ n : Nat, n = nbL b 5 4 := ⟨_, rfl⟩
    have lz1 : z1 < 4294967296 := by rw [hz1]; exact nbL_lt4 b 5
    have yz1 : IntKind.u32.wrap (z1 : Int) = (z1 : Int) := by rw [IntKind.wrap_u32]; omega
    have Hz1 : Hid (z1 = nbL b 5 4) := hz1
    clear hz1 lz1
    go_wp2_with fail
    refine (T0.out.numb (HL.out 5) 4 4 (by decide) z1 Hz1.out (b.drop 9) (drop_drop18 b 5 4 9 rfl)).mono ?_
    rintro e v1 ⟨rfl, hS1⟩
    have S1 : Hid (PtS w gb gt gr gp (b.drop 9) [] (pkC ⟨1, z0, 0, 0, 0, 0, [], 0, []⟩ (.slice none 0 0) (.slice none 0 0)) v1) := hS1
    clear hS1 T0
    go_wp2_with (refine st_u32 rfl _ _ rfl rfl (z1 : Int) rfl S1.out.pk rfl ?_)
    intro u1 r1 hw1
    have T1 : Hid (PtS w gb gt gr gp (b.drop 9) [] (pkC ⟨1, z0, z1, 0, 0, 0, [], 0, []⟩ (.slice none 0 0) (.slice none 0 0)) u1) := S1.out.put r1 hw1
    clear r1 hw1 S1
    obtain ⟨z2, hz2⟩ : ∃ n : Nat, n = nbL b 9 1 := ⟨_, rfl⟩
    have lz2 : z2 < 256 := by rw [hz2]; exact nbL_lt1 b 9
    have yz2 : IntKind.i64.wrap (z2 : Int) = (z2 : Int) := by rw [IntKind.wrap_i64]; omega
    have Hz2 : Hid (z2 = nbL b 9 1) := hz2
    clear hz2 lz2
    go_wp2_with fail
    refine (T1.out.numb (HL.out 9) 1 1 (by decide) z2 Hz2.out (b.drop 10) (drop_drop18 b 9 1 10 rfl)).mono ?_
    rintro e v2 ⟨rfl, hS2⟩
    have S2 : Hid (PtS w gb gt gr gp (b.drop 10) [] (pkC ⟨1, z0, z1, 0, 0, 0, [], 0, []⟩ (.slice none 0 0) (.slice none 0 0)) v2) := hS2
    clear hS2 T1
    go_wp2_with (refine st_int18 rfl _ _ rfl rfl (z2 : Int) rfl S2.out.pk rfl ?_)
    intro u2 r2 hw2
    have T2 : Hid (PtS w gb gt gr gp (b.drop 10) [] (pkC ⟨1, z0, z1, (z2 : Int), 0, 0, [], 0, []⟩ (.slice none 0 0) (.slice none 0 0)) u2) := S2.out.put r2 hw2
    clear r2 hw2 S2
    obtain ⟨z3, hz3⟩ : ∃ n : Nat, n = nbL b 10 1 := ⟨_, rfl⟩
    have lz3 : z3 < 256 := by rw [hz3]; exact nbL_lt1 b 10
    have yz3 : IntKind.i64.wrap (z3 : Int) = (z3 : Int) := by rw [IntKind.wrap_i64]; omega
    have Hz3 : Hid (z3 = nbL b 10 1) := hz3
    clear hz3 lz3
    go_wp2_with fail
    refine (T2.out.numb (HL.out 10) 1 1 (by decide) z3 Hz3.out (b.drop 11) (drop_drop18 b 10 1 11 rfl)).mono ?_
    rintro e v3 ⟨rfl, hS3⟩
    have S3 : Hid (PtS w gb gt gr gp (b.drop 11) [] (pkC ⟨1, z0, z1, (z2 : Int), 0, 0, [], 0, []⟩ (.slice none 0 0) (.slice none 0 0)) v3) := hS3
    clear hS3 T2
    go_wp2_with (refine st_int18 rfl _ _ rfl rfl (z3 : Int) rfl S3.out.pk rfl ?_)
    intro u3 r3 hw3
    have T3 : Hid (PtS w gb gt gr gp (b.drop 11) [] (pkC ⟨1, z0, z1, (z2 : Int), (z3 : Int), 0, [], 0, []⟩ (.slice none 0 0) (.slice none 0 0)) u3) := S3.out.put r3 hw3
    clear r3 hw3 S3
    obtain ⟨z4, hz4⟩ : ∃ n : Nat, n = nbL b 11 1 := ⟨_, rfl⟩
    have lz4 : z4 < 256 := by rw [hz4]; exact nbL_lt1 b 11
    have yz4 : IntKind.i64.wrap (z4 : Int) = (z4 : Int) := by rw [IntKind.wrap_i64]; omega
    have Hz4 : Hid (z4 = nbL b 11 1) := hz4
    clear hz4 lz4
    go_wp2_with fail
    refine (T3.out.numb (HL.out 11) 1 1 (by decide) z4 Hz4.out (b.drop 12) (drop_drop18 b 11 1 12 rfl)).mono ?_
    rintro e v4 ⟨rfl, hS4⟩
    have S4 : Hid (PtS w gb gt gr gp (b.drop 12) [] (pkC ⟨1, z0, z1, (z2 : Int), (z3 : Int), 0, [], 0, []⟩ (.slice none 0 0) (.slice none 0 0)) v4) := hS4
    clear hS4 T3
    go_wp2_with (refine st_int18 rfl _ _ rfl rfl (z4 : Int) rfl S4.out.pk rfl ?_)
    intro u4 r4 hw4
    have T4 : Hid (PtS w gb gt gr gp (b.drop 12) [] (pkC ⟨1, z0, z1, (z2 : Int), (z3 : Int), (z4 : Int), [], 0, []⟩ (.slice none 0 0) (.slice none 0 0)) u4) := S4.out.put r4 hw4
    clear r4 hw4 S4
    have cf : u4.cell? ⟨gt, 0, none⟩ = some (tkF gb) := by rw [T4.out.fn.cell]; rfl
    go_wp2_with fail
    clear cf
    obtain ⟨K5, hK5⟩ : ∃ K : List UInt8, K = (b.drop 12).take 16 := ⟨_, rfl⟩
    have HK5 : Hid (K5 = (b.drop 12).take 16) := hK5
    clear hK5
    refine (T4.out.takes (HL.out 12) 16 16 (by decide) K5 HK5.out (b.drop 28) (drop_drop18 b 12 16 28 rfl)).mono ?_
    rintro e v5 ⟨a5, c5, rfl, hS5⟩
    have S5 : Hid (PtS w gb gt gr gp (b.drop 28) [Rw.by 5 (.slice a5 K5.length c5) K5] (pkC ⟨1, z0, z1, (z2 : Int), (z3 : Int), (z4 : Int), [], 0, []⟩ (.slice none 0 0) (.slice none 0 0)) v5) := hS5
    clear hS5 T4
    go_wp2_with (refine st_sl18 rfl _ _ rfl rfl _ _ _ rfl S5.out.pk rfl ?_)
    intro u5 r5 hw5
    have T5 : Hid (PtS w gb gt gr gp (b.drop 28) [Rw.by 5 (.slice a5 K5.length c5) K5] (pkC ⟨1, z0, z1, (z2 : Int), (z3 : Int), (z4 : Int), K5, 0, []⟩ (.slice a5 K5.length c5) (.slice none 0 0)) u5) := S5.out.put r5 hw5
    clear r5 hw5 S5
    go_wp2_with fail
    refine (T5.out.rests (HL.out 28)).mono ?_
    rintro e v6 ⟨a6, c6, rfl, hS6⟩
    obtain ⟨K6, hK6⟩ : ∃ K : List UInt8, K = b.drop 28 := ⟨_, rfl⟩
    rw [← hK6] at hS6 ⊢
    have HK6 : Hid (K6 = b.drop 28) := hK6
    clear hK6
    have S6 : Hid (PtS w gb gt gr gp [] [Rw.by 5 (.slice a6 K6.length c6) K6, Rw.by 5 (.slice a5 K5.length c5) K5] (pkC ⟨1, z0, z1, (z2 : Int), (z3 : Int), (z4 : Int), K5, 0, []⟩ (.slice a5 K5.length c5) (.slice none 0 0)) v6) := hS6
    clear hS6 T5
    go_wp2_with (refine st_sl18 rfl _ _ rfl rfl _ _ _ rfl S6.out.pk rfl ?_)
    intro u6 r6 hw6
    have T6 : Hid (PtS w gb gt gr gp [] [Rw.by 5 (.slice a6 K6.length c6) K6, Rw.by 5 (.slice a5 K5.length c5) K5] (pkC ⟨1, z0, z1, (z2 : Int), (z3 : Int), (z4 : Int), K5, 0, K6⟩ (.slice a5 K5.length c5) (.slice a6 K6.length c6)) u6) := S6.out.put r6 hw6
    clear r6 hw6 S6
    have HV : Hid (PT = ⟨1, z0, z1, (z2 : Int), (z3 : Int), (z4 : Int), K5, 0, K6⟩) := by
      show _ = _
      rw [HPT.out, Hz0.out, Hz1.out, Hz2.out, Hz3.out, Hz4.out, HK5.out, HK6.out]
      unfold ptP
      rw [← HK.out]
      rfl
    go_wp2_with (first | refine wpList_load_part rfl 26 _ rfl rfl [] (pkC ⟨1, z0, z1, (z2 : Int), (z3 : Int), (z4 : Int), K5, 0, K6⟩ (.slice a5 K5.length c5) (.slice a6 K6.length c6)) [] T6.out.pk (by simp) rfl Try.underlying26 rfl info_wk ?_ | (refine wpList_store_part rfl 26 _ _ rfl rfl (pkC ⟨1, z0, z1, (z2 : Int), (z3 : Int), (z4 : Int), K5, 0, K6⟩ (.slice a5 K5.length c5) (.slice a6 K6.length c6)) rfl [] zpk [] (pkC ⟨1, z0, z1, (z2 : Int), (z3 : Int), (z4 : Int), K5, 0, K6⟩ (.slice a5 K5.length c5) (.slice a6 K6.length c6)) T6.out.res (by simp) (by simp) rfl rfl info_wk (one_pk _ _ _ _ _ _ _) ?_; intro wz wzr wzw))
    have wzr2 : BlkAt gr 26 (pkC ⟨1, z0, z1, (z2 : Int), (z3 : Int), (z4 : Int), K5, 0, K6⟩ (.slice a5 K5.length c5) (.slice a6 K6.length c6)) wz := by simpa using wzr
    refine bodyPost_blk rfl rfl rfl wzr2 Try.underlying26 rfl info_wk ?_
    rw [HV.out]
    exact ⟨_, _, rfl, (T6.out.tk.own.wrote wzw T6.out.ge.2 fun p hp => own_ne18 (T6.out.tk.own.rows p hp) T6.out.res (by rw [T6.out.tk.ty p hp]; decide))⟩
  have j1 : ((k : Int) == 1) = false := by rw [beq_eq_false_iff_ne]; omega
  by_cases k2 : k = 2
  · subst k2
    obtain ⟨z0, hz0⟩ : ∃ n : Nat, n = nbL b 1 4 := ⟨_, rfl⟩
    have lz0 : z0 < 4294967296 := by rw [hz0]; exact nbL_lt4 b 1
    have yz0 : IntKind.u32.wrap (z0 : Int) = (z0 : Int) := by rw [IntKind.wrap_u32]; omega
    have Hz0 : Hid (z0 = nbL b 1 4) := hz0
    clear hz0 lz0
    go_wp2_with fail
    refine (HS.out.numb (HL.out 1) 4 4 (by decide) z0 Hz0.out (b.drop 5) (drop_drop18 b 1 4 5 rfl)).mono ?_
    rintro e v0 ⟨rfl, hS0⟩
    have S0 : Hid (PtS w gb gt gr gp (b.drop 5) [] (pkC ⟨2, 0, 0, 0, 0, 0, [], 0, []⟩ (.slice none 0 0) (.slice none 0 0)) v0) := hS0
    clear hS0 HS c0
    go_wp2_with (refine st_u32 rfl _ _ rfl rfl (z0 : Int) rfl S0.out.pk rfl ?_)
    intro u0 r0 hw0
    have T0 : Hid (PtS w gb gt gr gp (b.drop 5) [] (pkC ⟨2, 0, z0, 0, 0, 0, [], 0, []⟩ (.slice none 0 0) (.slice none 0 0)) u0) := S0.out.put r0 hw0
    clear r0 hw0 S0
    go_wp2_with fail
    refine (T0.out.rests (HL.out 5)).mono ?_
    rintro e v1 ⟨a1, c1, rfl, hS1⟩
    obtain ⟨K1, hK1⟩ : ∃ K : List UInt8, K = b.drop 5 := ⟨_, rfl⟩
    rw [← hK1] at hS1 ⊢
    have HK1 : Hid (K1 = b.drop 5) := hK1
    clear hK1
    have S1 : Hid (PtS w gb gt gr gp [] [Rw.by 5 (.slice a1 K1.length c1) K1] (pkC ⟨2, 0, z0, 0, 0, 0, [], 0, []⟩ (.slice none 0 0) (.slice none 0 0)) v1) := hS1
    clear hS1 T0
    go_wp2_with (refine st_sl18 rfl _ _ rfl rfl _ _ _ rfl S1.out.pk rfl ?_)
    intro u1 r1 hw1
    have T1 : Hid (PtS w gb gt gr gp [] [Rw.by 5 (.slice a1 K1.length c1) K1] (pkC ⟨2, 0, z0, 0, 0, 0, K1, 0, []⟩ (.slice a1 K1.length c1) (.slice none 0 0)) u1) := S1.out.put r1 hw1
    clear r1 hw1 S1
    have HV : Hid (PT = ⟨2, 0, z0, 0, 0, 0, K1, 0, []⟩) := by
      show _ = _
      rw [HPT.out, Hz0.out, HK1.out]
      unfold ptP
      rw [← HK.out]
      rfl
    go_wp2_with (first | refine wpList_load_part rfl 26 _ rfl rfl [] (pkC ⟨2, 0, z0, 0, 0, 0, K1, 0, []⟩ (.slice a1 K1.length c1) (.slice none 0 0)) [] T1.out.pk (by simp) rfl Try.underlying26 rfl info_wk ?_ | (refine wpList_store_part rfl 26 _ _ rfl rfl (pkC ⟨2, 0, z0, 0, 0, 0, K1, 0, []⟩ (.slice a1 K1.length c1) (.slice none 0 0)) rfl [] zpk [] (pkC ⟨2, 0, z0, 0, 0, 0, K1, 0, []⟩ (.slice a1 K1.length c1) (.slice none 0 0)) T1.out.res (by simp) (by simp) rfl rfl info_wk (one_pk _ _ _ _ _ _ _) ?_; intro wz wzr wzw))
    have wzr2 : BlkAt gr 26 (pkC ⟨2, 0, z0, 0, 0, 0, K1, 0, []⟩ (.slice a1 K1.length c1) (.slice none 0 0)) wz := by simpa using wzr
    refine bodyPost_blk rfl rfl rfl wzr2 Try.underlying26 rfl info_wk ?_
    rw [HV.out]
    exact ⟨_, _, rfl, ((T1.out.tk.own.wrote wzw T1.out.ge.2 fun p hp => own_ne18 (T1.out.tk.own.rows p hp) T1.out.res (by rw [T1.out.tk.ty p hp]; decide)).nilB 5)⟩
  have j2 : ((k : Int) == 2) = false := by rw [beq_eq_false_iff_ne]; omega
  by_cases k3 : k = 3
  · subst k3
    obtain ⟨z0, hz0⟩ : ∃ n : Nat, n = nbL b 1 4 := ⟨_, rfl⟩
    have lz0 : z0 < 4294967296 := by rw [hz0]; exact nbL_lt4 b 1
    have yz0 : IntKind.u32.wrap (z0 : Int) = (z0 : Int) := by rw [IntKind.wrap_u32]; omega
    have Hz0 : Hid (z0 = nbL b 1 4) := hz0
    clear hz0 lz0
    go_wp2_with fail
    refine (HS.out.numb (HL.out 1) 4 4 (by decide) z0 Hz0.out (b.drop 5) (drop_drop18 b 1 4 5 rfl)).mono ?_
    rintro e v0 ⟨rfl, hS0⟩
    have S0 : Hid (PtS w gb gt gr gp (b.drop 5) [] (pkC ⟨3, 0, 0, 0, 0, 0, [], 0, []⟩ (.slice none 0 0) (.slice none 0 0)) v0) := hS0
    clear hS0 HS c0
    go_wp2_with (refine st_u32 rfl _ _ rfl rfl (z0 : Int) rfl S0.out.pk rfl ?_)
    intro u0 r0 hw0
    have T0 : Hid (PtS w gb gt gr gp (b.drop 5) [] (pkC ⟨3, 0, z0, 0, 0, 0, [], 0, []⟩ (.slice none 0 0) (.slice none 0 0)) u0) := S0.out.put r0 hw0
    clear r0 hw0 S0
    obtain ⟨z1, hz1⟩ : ∃ n : Nat, n = nbL b 5 8 := ⟨_, rfl⟩
    have lz1 : z1 < 18446744073709551616 := by rw [hz1]; exact nbL_lt8 b 5
    have Hz1 : Hid (z1 = nbL b 5 8) := hz1
    clear hz1 lz1
    go_wp2_with fail
    refine (T0.out.numb (HL.out 5) 8 8 (by decide) z1 Hz1.out (b.drop 13) (drop_drop18 b 5 8 13 rfl)).mono ?_
    rintro e v1 ⟨rfl, hS1⟩
    have S1 : Hid (PtS w gb gt gr gp (b.drop 13) [] (pkC ⟨3, 0, z0, 0, 0, 0, [], 0, []⟩ (.slice none 0 0) (.slice none 0 0)) v1) := hS1
    clear hS1 T0
    go_wp2_with (refine st_u64 rfl _ _ rfl rfl (z1 : Int) rfl S1.out.pk rfl ?_)
    intro u1 r1 hw1
    have T1 : Hid (PtS w gb gt gr gp (b.drop 13) [] (pkC ⟨3, 0, z0, 0, 0, 0, [], z1, []⟩ (.slice none 0 0) (.slice none 0 0)) u1) := S1.out.put r1 hw1
    clear r1 hw1 S1
    go_wp2_with fail
    refine (T1.out.rests (HL.out 13)).mono ?_
    rintro e v2 ⟨a2, c2, rfl, hS2⟩
    obtain ⟨K2, hK2⟩ : ∃ K : List UInt8, K = b.drop 13 := ⟨_, rfl⟩
    rw [← hK2] at hS2 ⊢
    have HK2 : Hid (K2 = b.drop 13) := hK2
    clear hK2
    have S2 : Hid (PtS w gb gt gr gp [] [Rw.by 5 (.slice a2 K2.length c2) K2] (pkC ⟨3, 0, z0, 0, 0, 0, [], z1, []⟩ (.slice none 0 0) (.slice none 0 0)) v2) := hS2
    clear hS2 T1
    go_wp2_with (refine st_sl18 rfl _ _ rfl rfl _ _ _ rfl S2.out.pk rfl ?_)
    intro u2 r2 hw2
    have T2 : Hid (PtS w gb gt gr gp [] [Rw.by 5 (.slice a2 K2.length c2) K2] (pkC ⟨3, 0, z0, 0, 0, 0, [], z1, K2⟩ (.slice none 0 0) (.slice a2 K2.length c2)) u2) := S2.out.put r2 hw2
    clear r2 hw2 S2
    have HV : Hid (PT = ⟨3, 0, z0, 0, 0, 0, [], z1, K2⟩) := by
      show _ = _
      rw [HPT.out, Hz0.out, Hz1.out, HK2.out]
      unfold ptP
      rw [← HK.out]
      rfl
    go_wp2_with (first | refine wpList_load_part rfl 26 _ rfl rfl [] (pkC ⟨3, 0, z0, 0, 0, 0, [], z1, K2⟩ (.slice none 0 0) (.slice a2 K2.length c2)) [] T2.out.pk (by simp) rfl Try.underlying26 rfl info_wk ?_ | (refine wpList_store_part rfl 26 _ _ rfl rfl (pkC ⟨3, 0, z0, 0, 0, 0, [], z1, K2⟩ (.slice none 0 0) (.slice a2 K2.length c2)) rfl [] zpk [] (pkC ⟨3, 0, z0, 0, 0, 0, [], z1, K2⟩ (.slice none 0 0) (.slice a2 K2.length c2)) T2.out.res (by simp) (by simp) rfl rfl info_wk (one_pk _ _ _ _ _ _ _) ?_; intro wz wzr wzw))
    have wzr2 : BlkAt gr 26 (pkC ⟨3, 0, z0, 0, 0, 0, [], z1, K2⟩ (.slice none 0 0) (.slice a2 K2.length c2)) wz := by simpa using wzr
    refine bodyPost_blk rfl rfl rfl wzr2 Try.underlying26 rfl info_wk ?_
    rw [HV.out]
    exact ⟨_, _, rfl, ((T2.out.tk.own.wrote wzw T2.out.ge.2 fun p hp => own_ne18 (T2.out.tk.own.rows p hp) T2.out.res (by rw [T2.out.tk.ty p hp]; decide)).nilB 5).swap⟩
  have j3 : ((k : Int) == 3) = false := by rw [beq_eq_false_iff_ne]; omega
  by_cases k4 : k = 4
  · subst k4
    obtain ⟨z0, hz0⟩ : ∃ n : Nat, n = nbL b 1 4 := ⟨_, rfl⟩
    have lz0 : z0 < 4294967296 := by rw [hz0]; exact nbL_lt4 b 1
    have yz0 : IntKind.u32.wrap (z0 : Int) = (z0 : Int) := by rw [IntKind.wrap_u32]; omega
    have Hz0 : Hid (z0 = nbL b 1 4) := hz0
    clear hz0 lz0
    go_wp2_with fail
    refine (HS.out.numb (HL.out 1) 4 4 (by decide) z0 Hz0.out (b.drop 5) (drop_drop18 b 1 4 5 rfl)).mono ?_
    rintro e v0 ⟨rfl, hS0⟩
    have S0 : Hid (PtS w gb gt gr gp (b.drop 5) [] (pkC ⟨4, 0, 0, 0, 0, 0, [], 0, []⟩ (.slice none 0 0) (.slice none 0 0)) v0) := hS0
    clear hS0 HS c0
    go_wp2_with (refine st_u32 rfl _ _ rfl rfl (z0 : Int) rfl S0.out.pk rfl ?_)
    intro u0 r0 hw0
    have T0 : Hid (PtS w gb gt gr gp (b.drop 5) [] (pkC ⟨4, 0, z0, 0, 0, 0, [], 0, []⟩ (.slice none 0 0) (.slice none 0 0)) u0) := S0.out.put r0 hw0
    clear r0 hw0 S0
    obtain ⟨z1, hz1⟩ : ∃ n : Nat, n = nbL b 5 8 := ⟨_, rfl⟩
    have lz1 : z1 < 18446744073709551616 := by rw [hz1]; exact nbL_lt8 b 5
    have Hz1 : Hid (z1 = nbL b 5 8) := hz1
    clear hz1 lz1
    go_wp2_with fail
    refine (T0.out.numb (HL.out 5) 8 8 (by decide) z1 Hz1.out (b.drop 13) (drop_drop18 b 5 8 13 rfl)).mono ?_
    rintro e v1 ⟨rfl, hS1⟩
    have S1 : Hid (PtS w gb gt gr gp (b.drop 13) [] (pkC ⟨4, 0, z0, 0, 0, 0, [], 0, []⟩ (.slice none 0 0) (.slice none 0 0)) v1) := hS1
    clear hS1 T0
    go_wp2_with (refine st_u64 rfl _ _ rfl rfl (z1 : Int) rfl S1.out.pk rfl ?_)
    intro u1 r1 hw1
    have T1 : Hid (PtS w gb gt gr gp (b.drop 13) [] (pkC ⟨4, 0, z0, 0, 0, 0, [], z1, []⟩ (.slice none 0 0) (.slice none 0 0)) u1) := S1.out.put r1 hw1
    clear r1 hw1 S1
    go_wp2_with fail
    refine (T1.out.rests (HL.out 13)).mono ?_
    rintro e v2 ⟨a2, c2, rfl, hS2⟩
    obtain ⟨K2, hK2⟩ : ∃ K : List UInt8, K = b.drop 13 := ⟨_, rfl⟩
    rw [← hK2] at hS2 ⊢
    have HK2 : Hid (K2 = b.drop 13) := hK2
    clear hK2
    have S2 : Hid (PtS w gb gt gr gp [] [Rw.by 5 (.slice a2 K2.length c2) K2] (pkC ⟨4, 0, z0, 0, 0, 0, [], z1, []⟩ (.slice none 0 0) (.slice none 0 0)) v2) := hS2
    clear hS2 T1
    go_wp2_with (refine st_sl18 rfl _ _ rfl rfl _ _ _ rfl S2.out.pk rfl ?_)
    intro u2 r2 hw2
    have T2 : Hid (PtS w gb gt gr gp [] [Rw.by 5 (.slice a2 K2.length c2) K2] (pkC ⟨4, 0, z0, 0, 0, 0, [], z1, K2⟩ (.slice none 0 0) (.slice a2 K2.length c2)) u2) := S2.out.put r2 hw2
    clear r2 hw2 S2
    have HV : Hid (PT = ⟨4, 0, z0, 0, 0, 0, [], z1, K2⟩) := by
      show _ = _
      rw [HPT.out, Hz0.out, Hz1.out, HK2.out]
      unfold ptP
      rw [← HK.out]
      rfl
    go_wp2_with (first | refine wpList_load_part rfl 26 _ rfl rfl [] (pkC ⟨4, 0, z0, 0, 0, 0, [], z1, K2⟩ (.slice none 0 0) (.slice a2 K2.length c2)) [] T2.out.pk (by simp) rfl Try.underlying26 rfl info_wk ?_ | (refine wpList_store_part rfl 26 _ _ rfl rfl (pkC ⟨4, 0, z0, 0, 0, 0, [], z1, K2⟩ (.slice none 0 0) (.slice a2 K2.length c2)) rfl [] zpk [] (pkC ⟨4, 0, z0, 0, 0, 0, [], z1, K2⟩ (.slice none 0 0) (.slice a2 K2.length c2)) T2.out.res (by simp) (by simp) rfl rfl info_wk (one_pk _ _ _ _ _ _ _) ?_; intro wz wzr wzw))
    have wzr2 : BlkAt gr 26 (pkC ⟨4, 0, z0, 0, 0, 0, [], z1, K2⟩ (.slice none 0 0) (.slice a2 K2.length c2)) wz := by simpa using wzr
    refine bodyPost_blk rfl rfl rfl wzr2 Try.underlying26 rfl info_wk ?_
    rw [HV.out]
    exact ⟨_, _, rfl, ((T2.out.tk.own.wrote wzw T2.out.ge.2 fun p hp => own_ne18 (T2.out.tk.own.rows p hp) T2.out.res (by rw [T2.out.tk.ty p hp]; decide)).nilB 5).swap⟩
  have j4 : ((k : Int) == 4) = false := by rw [beq_eq_false_iff_ne]; omega
  have HV : Hid (PT = ⟨(k : Int), 0, 0, 0, 0, 0, [], 0, []⟩) := by
    show _ = _
    rw [HPT.out]
    unfold ptP
    rw [← HK.out, if_neg k1, if_neg k2, if_neg (fun h => h.elim k3 k4)]
  clear k1 k2 k3 k4
  go_wp2_with (first | refine wpList_load_part rfl 26 _ rfl rfl [] (pkC ⟨(k : Int), 0, 0, 0, 0, 0, [], 0, []⟩ (.slice none 0 0) (.slice none 0 0)) [] HS.out.pk (by simp) rfl Try.underlying26 rfl info_wk ?_ | (refine wpList_store_part rfl 26 _ _ rfl rfl (pkC ⟨(k : Int), 0, 0, 0, 0, 0, [], 0, []⟩ (.slice none 0 0) (.slice none 0 0)) rfl [] zpk [] (pkC ⟨(k : Int), 0, 0, 0, 0, 0, [], 0, []⟩ (.slice none 0 0) (.slice none 0 0)) HS.out.res (by simp) (by simp) rfl rfl info_wk (one_pk _ _ _ _ _ _ _) ?_; intro wz wzr wzw))
  have wzr2 : BlkAt gr 26 (pkC ⟨(k : Int), 0, 0, 0, 0, 0, [], 0, []⟩ (.slice none 0 0) (.slice none 0 0)) wz := by simpa using wzr
  refine bodyPost_blk rfl rfl rfl wzr2 Try.underlying26 rfl info_wk ?_
  rw [HV.out]
  exact ⟨_, _, rfl, (((HS.out.tk.own.wrote wzw HS.out.ge.2 fun p hp => by cases hp).nilB 5).nilB 5)⟩
end Go.Proofs.Ytonnngndknoljaa
