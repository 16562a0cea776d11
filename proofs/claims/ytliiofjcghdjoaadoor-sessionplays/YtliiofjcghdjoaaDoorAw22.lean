/- That the program is awake: waits, and a text that goes over. -/
import Derived.Test.YtliiofjcghdjoaaDoorSsu
import Derived.Lib.SlBytesConst
namespace Go.Proofs.YtliiofjcghdjoaaDoor
open Go.ChangeShapes Go.WideShapes Go.ChangeAt Go.RowKit
set_option linter.unusedSimpArgs false
set_option linter.unusedVariables false

/-- A constant string's bytes: a new row, marked behind its end. -/
theorem Rd.marked22 {w : World} {e : TypeId} {fr : Nat × Nat} (l : List UInt8) {cs : Array Value} {n b : Nat} (h : cs = (l.map bv).toArray) (hn : n = l.length) (hb : b = w.heap.size) (hm : l.length ≤ maxLen) : Rd (w.alloc (.cells cs e fr)) (.slice (some ⟨b, 0, none⟩) n n) l := by
  subst h hn hb
  refine ⟨_, _, rfl, Nat.le_refl _, hm, (fun h => by cases h), .inr ⟨_, 0, rfl, fun i hi => ?_⟩⟩
  have hh : (w.alloc (.cells (l.map bv).toArray e fr)).heap[w.heap.size]? = some (.cells (l.map bv).toArray e fr) := by
    show (w.heap.push _)[w.heap.size]? = _
    simp
  unfold World.cell?
  rw [hh]
  simp [hi, bv]
theorem convS22 {w : World} {v : Value} {l : List UInt8} (h : Rd w v l) : (convert 40 9 v).run Tryd.prog w = .ok (.string ⟨l.toArray⟩) w := h.conv Tryd.underlying40 Tryd.underlying5 Tryd.underlying9
def rl22 : Rl := ⟨5, 30, 2, 50, 100, 5, 9⟩
theorem rl22_ok : RlW rl22 := ⟨by decide, by decide, by decide, by decide, by decide, by decide, by decide⟩
def z32 : List UInt8 := List.replicate 32 0
def tx22 : List UInt8 := [116, 101, 120, 116]
def bx22 : List UInt8 := (seC ⟨z32, 0⟩ [] tx22).2.1
def se22a : Ses := ⟨⟨z32, 0⟩, ⟨z32, 0⟩, 0, 0, []⟩
def se22b : Ses := ⟨⟨z32, 1⟩, ⟨z32, 0⟩, 0, 1, []⟩
def se22c : Ses := ⟨⟨z32, 1⟩, ⟨z32, 0⟩, 0, 1, [0]⟩
theorem seC22 : seC ⟨z32, 0⟩ [] tx22 = (⟨z32, 1⟩, bx22, 0) := rfl
theorem bx22_len : bx22.length = 20 := by
  show (seL z32 (ncL 0) [] tx22).length = 20
  rw [seL_len]
  rfl
theorem ssS22 : ssS rl22 se22a tx22 3 = (se22b, 0, bx22, 0) := by
  show (if exB rl22 se22a 3 = true then _ else _ : Ses × Nat × List UInt8 × Int) = _
  rw [if_neg (by decide)]
  show (if (seC ⟨z32, 0⟩ [] tx22).2.2 ≠ 0 then _ else _ : Ses × Nat × List UInt8 × Int) = _
  rw [if_neg (by rw [seC22]; simp)]
  rfl
theorem opC22 : (opC ⟨z32, 0⟩ [] bx22).2 = (tx22, 0) := opC_seC ⟨z32, 0⟩ tx22 rfl
theorem ssO22 : ssO rl22 se22b 0 bx22 4 = (se22c, tx22, 0) := by
  have h1 : ¬ rl22.expire ≤ snN se22b.born 4 := by decide
  have h2 : ¬ cmE se22b.came 0 ≠ 0 := by decide
  have h3 : (opC ⟨se22b.rcv.key, 0⟩ [] bx22).2 = (tx22, 0) := opC22
  unfold ssO
  rw [if_neg h1, if_neg h2, h3, if_neg (by simp)]
  rfl
theorem ssO22b : ssO rl22 se22c 0 bx22 5 = (se22c, [], 43) := by
  have h1 : ¬ rl22.expire ≤ snN se22c.born 5 := by decide
  have h2 : cmE se22c.came 0 ≠ 0 := by decide
  unfold ssO
  rw [if_neg h1, if_pos h2]
  rfl
theorem build_cp0 (a : Option Addr) (l c : Nat) (w : World) : (Instr.build 46 #[(0, .slice a l c)]).run Tryd.prog w = .ok (.agg #[.slice a l c, .int .u64 0]) w := by kernel_rfl
theorem build_rl22 (w : World) : (Instr.build 24 #[(0, .int .u64 5), (1, .int .u64 30), (2, .int .i64 2), (3, .int .u64 50), (4, .int .u64 100), (5, .int .u64 5), (6, .int .u64 9)]).run Tryd.prog w = .ok (.agg (rlC rl22).toArray) w := by kernel_rfl
theorem alloc_rl (w : World) : (Instr.alloc 24 true (.tuple #[])).run Tryd.prog w = .ok (.pointer (some ⟨w.heap.size, 0, none⟩)) (w.alloc (.cells (rlC ⟨0, 0, 0, 0, 0, 0, 0⟩).toArray 24)) := by kernel_rfl
theorem one_rl (r : Rl) : (rlC r).toArray.all (·.oneCell') = true := by kernel_rfl

theorem wpList_loadG22 {P : Program} {ops : Array Oper} {rest : List Oper} {op : Oper} {a : Act} {w : World} {Q : Exit → Act → World → Prop} (ty : TypeId) (x : Operand) (ho : op.op = .load ty x) {g : Nat} (hx : a.eval x = .pointer (some ⟨g, 0, none⟩))
    {bt : TypeId} (cs : List Value) (hb : BlkAt g bt cs w) {d : TypeDesc} (hu : P.underlying ty = some d) (hd : d.isRow = true) (hi : (P.info? ty).map (·.size) = some cs.length) (hw : Region.wanted op (yielded ops a.tmps) = true)
    (h : wpList P ops Q rest (a.put op.dst (.agg cs.toArray)) w) : wpList P ops Q (op :: rest) a w := by
  refine wpList_step fun K hK => ?_
  rw [if_pos hw]
  unfold Oper.wp
  rw [exec_load_part ty x ho hx [] cs [] hb (Below.refl _ _) (by simp) rfl hu hd hi]
  exact hK _ _ h
theorem wpList_loadRl {g : Nat} {r : Rl} {ops : Array Oper} {rest : List Oper} {op : Oper} {a : Act} {W : World} {Q : Exit → Act → World → Prop} (x : Operand) (ho : op.op = .load 24 x) (hx : a.eval x = .pointer (some ⟨g, 0, none⟩)) (hb : BlkAt g 24 (rlC r) W) (hw : Region.wanted op (yielded ops a.tmps) = true) (h : wpList Tryd.prog ops Q rest (a.put op.dst (.agg (rlC r).toArray)) W) : wpList Tryd.prog ops Q (op :: rest) a W :=
  wpList_loadG22 24 x ho hx (rlC r) hb Tryd.underlying24 rfl info_rl hw h
theorem wt22 : wtN rl22 0 = 5 ∧ wtN rl22 2 = 20 ∧ wtN rl22 3 = 30 := by decide
theorem du22 : duB rl22 0 0 4 = false ∧ duB rl22 0 0 5 = true ∧ (agT rl22 0 0 5).2 = true := by decide
theorem rk22 : rkB rl22 se22c 50 = true ∧ exB rl22 se22c 99 = false := by decide

set_option maxRecDepth 100000 in
set_option maxHeartbeats 8000000 in
theorem awake_any (w : World) (hp : PlT w) (hk : KpT w) : Calls Tryd.prog 7 #[] w fun e w' => e = .returned (.bool true) ∧ Below w.heap.size w w' := by
  have HP : Hid (PlT w ∧ KpT w) := ⟨hp, hk⟩
  have kc := fun (w : World) (C : Array Value) (n c : Nat) => Lib.run_convert_bytes_const (P := Tryd.prog) w 40 5 C n c Tryd.underlying40 Tryd.underlying5
  clear hp hk
  go_enter Tryd.func7, Tryd.ntmps7
  go_wp2_with (first | refine wpList_buildB rfl 24 _ rfl #[(0, .int .u64 5), (1, .int .u64 30), (2, .int .i64 2), (3, .int .u64 50), (4, .int .u64 100), (5, .int .u64 5), (6, .int .u64 9)] (by go_simp; done) _ (build_rl22 _) ?_ | refine wpList_alloc_blk rfl 24 rfl (rlC ⟨0, 0, 0, 0, 0, 0, 0⟩) (alloc_rl _) ?_)
  intro w1 r1 b1 s1
  obtain ⟨g, hg⟩ : ∃ n : Nat, n = w.heap.size := ⟨_, rfl⟩
  rw [← hg] at r1 ⊢
  have HR1 : Hid (BlkAt g 24 (rlC ⟨0, 0, 0, 0, 0, 0, 0⟩) w1 ∧ Below w.heap.size w w1 ∧ w.heap.size ≤ g) := ⟨r1, b1, by omega⟩
  clear r1 b1 s1 hg
  go_wp2_with (refine wpList_store_part rfl 24 _ _ rfl rfl (rlC rl22) rfl [] (rlC ⟨0, 0, 0, 0, 0, 0, 0⟩) [] (rlC rl22) HR1.out.1 rfl rfl rfl rfl info_rl (one_rl _) ?_)
  intro w2 r2 hw2
  have HR2 : Hid (BlkAt g 24 (rlC rl22) w2 ∧ Below w.heap.size w w2) := ⟨r2, hw2.below _ _ HR1.out.2.2 HR1.out.2.1⟩
  clear r2 hw2 HR1
  go_wp2_with (refine wpList_make_new16 rfl _ _ 40 rfl Tryd.underlying40 infoU8 32 rfl rfl (by decide) ?_)
  intro w3 hN3
  have HR3 : Hid (BlkAt g 24 (rlC rl22) w3 ∧ Below w.heap.size w w3 ∧ Rd w3 (.slice (some ⟨w2.heap.size, 0, none⟩) 32 32) z32) := ⟨HR2.out.1.kept hN3.2, stepB HR2.out.2 hN3.2, hN3.rd⟩
  generalize w2.heap.size = k at HR3 ⊢
  clear hN3 HR2
  go_wp2_with (first | refine wpList_buildB rfl 46 _ rfl #[(0, .slice (some ⟨k, 0, none⟩) 32 32)] (by go_simp; done) _ (build_cp0 _ _ _ _) ?_ | refine wpList_load_part rfl 24 _ rfl rfl [] (rlC rl22) [] HR3.out.1 rfl rfl Tryd.underlying24 rfl info_rl ?_)
  refine (cnew_any rl22 (.slice (some ⟨k, 0, none⟩) 32 32) (.slice (some ⟨k, 0, none⟩) 32 32) z32 z32 0 0 0 (by decide) (by decide) (by decide) (by decide) (by decide) _ _ _ rfl rfl rfl _ HR3.out.2.2 HR3.out.2.2).mono ?_
  rintro e w4 ⟨gs, rfl, hgs, hS4, b4⟩
  have HS4 : Hid (BlkAt g 24 (rlC rl22) w4 ∧ Below w.heap.size w w4 ∧ SnP gs rl22 se22a w4 ∧ w.heap.size ≤ gs ∧ g < gs) := ⟨HR3.out.1.kept b4, stepB HR3.out.2.1 b4, hS4, Nat.le_trans HR3.out.2.1.size hgs, by have := HR3.out.1.lt; omega⟩
  clear hgs hS4 b4 HR3
  go_wp2_with (refine wpList_load_part rfl 24 _ rfl rfl [] (rlC rl22) [] HS4.out.1 rfl rfl Tryd.underlying24 rfl info_rl ?_)
  refine (cstart_any rl22 0 _ rfl _).mono ?_
  rintro e w5 ⟨gt, rfl, hgt, hT5, b5⟩
  have HS5 : Hid (BlkAt g 24 (rlC rl22) w5 ∧ Below w.heap.size w w5 ∧ SnP gs rl22 se22a w5 ∧ w.heap.size ≤ gs ∧ g < gs ∧ BlkAt gt 73 (tiC rl22 0 0) w5 ∧ gs < gt) := ⟨HS4.out.1.kept b5, stepB HS4.out.2.1 b5, HS4.out.2.2.1.kept b5, HS4.out.2.2.2.1, HS4.out.2.2.2.2, hT5, by have := HS4.out.2.2.1.lt; omega⟩
  have HGt : Hid (w.heap.size ≤ gt) := (by have := HS5.out.2.2.2.1; have := HS5.out.2.2.2.2.2.2; omega : w.heap.size ≤ gt)
  clear hgt hT5 b5 HS4
  have b6 : Below w5.heap.size w5 (w5.alloc (.cells #[.int .u8 116, .int .u8 101, .int .u8 120, .int .u8 116] 5 (4, 5))) := growB _
  have hT6 : Rd (w5.alloc (.cells #[.int .u8 116, .int .u8 101, .int .u8 120, .int .u8 116] 5 (4, 5))) (.slice (some ⟨w5.heap.size, 0, none⟩) 4 4) tx22 := Rd.marked22 tx22 rfl rfl rfl (by decide)
  generalize hw6 : w5.alloc (.cells #[.int .u8 116, .int .u8 101, .int .u8 120, .int .u8 116] 5 (4, 5)) = w6 at b6 hT6
  have HW6 : Hid (w5.alloc (.cells #[.int .u8 116, .int .u8 101, .int .u8 120, .int .u8 116] 5 (4, 5)) = w6) := hw6
  have HS6 : Hid (Rd w6 (.slice (some ⟨w5.heap.size, 0, none⟩) 4 4) tx22 ∧ Below w5.heap.size w5 w6) := ⟨hT6, b6⟩
  clear hw6 b6 hT6
  go_wp2_with fail
  rw [HW6.out]
  refine (zseal_any gs rl22 rl22_ok se22a _ tx22 (by decide) 3 (by decide) w6 (HS5.out.2.2.1.kept HS6.out.2) HS6.out.1 ((HP.out.1.kept HS5.out.2.1).kept HS6.out.2) ((HP.out.2.kept HS5.out.2.1).kept HS6.out.2)).mono ?_
  rw [ssS22]
  rintro e w7 ⟨x, rfl, hO, hS7, hC7⟩
  have hb56 := stepB HS5.out.2.1 HS6.out.2
  have HS7 : Hid (BlkAt g 24 (rlC rl22) w7 ∧ Below w.heap.size w w7 ∧ SnP gs rl22 se22b w7 ∧ w.heap.size ≤ gs ∧ BlkAt gt 73 (tiC rl22 0 0) w7 ∧ gs < gt ∧ g < gs ∧ Rd w7 x bx22) := ⟨(HS5.out.1.kept HS6.out.2).chg hC7 (by have := HS5.out.2.2.2.2.1; omega), Chg.gone hb56 hC7 hb56.size HS5.out.2.2.2.1, hS7, HS5.out.2.2.2.1, (HS5.out.2.2.2.2.2.1.kept HS6.out.2).chg hC7 (by have := HS5.out.2.2.2.2.2.2; omega), HS5.out.2.2.2.2.2.2, HS5.out.2.2.2.2.1, hO.rd⟩
  clear hO hS7 hC7 hb56 HS6 HS5 HW6
  obtain ⟨ax, cx, rfl, -⟩ := id HS7.out.2.2.2.2.2.2.2
  go_wp2_with fail
  refine (zopen_any gs rl22 se22b 0 (by decide) _ bx22 (by rw [bx22_len]; decide) 4 (by decide) w7 HS7.out.2.2.1 HS7.out.2.2.2.2.2.2.2 (HP.out.1.kept HS7.out.2.1) (HP.out.2.kept HS7.out.2.1)).mono ?_
  rw [ssO22]
  rintro e w8 ⟨y, rfl, hO, hS8, hC8⟩
  obtain ⟨a1, c1, a2, c2, wa, wb, -, -, hblk, -, -⟩ := HS7.out.2.2.1.mem
  have hbx := HS7.out.2.2.2.2.2.2.2.past16 hblk (snC_no8 _ _ _ _ _ _ _ _ _ _ _ _ _) hC8
  have HS8 : Hid (BlkAt g 24 (rlC rl22) w8 ∧ Below w.heap.size w w8 ∧ SnP gs rl22 se22c w8 ∧ w.heap.size ≤ gs ∧ BlkAt gt 73 (tiC rl22 0 0) w8 ∧ gs < gt ∧ g < gs ∧ Rd w8 (.slice ax bx22.length cx) bx22 ∧ Rd w8 y tx22) := ⟨HS7.out.1.chg hC8 (by have := HS7.out.2.2.2.2.2.2.1; omega), Chg.gone HS7.out.2.1 hC8 HS7.out.2.1.size HS7.out.2.2.2.1, hS8, HS7.out.2.2.2.1, HS7.out.2.2.2.2.1.chg hC8 (by have := HS7.out.2.2.2.2.2.1; omega), HS7.out.2.2.2.2.2.1, HS7.out.2.2.2.2.2.2.1, hbx, hO.rd⟩
  clear hO hS8 hC8 hbx hblk HS7
  obtain ⟨ay, cy, rfl, -⟩ := id HS8.out.2.2.2.2.2.2.2.2
  go_wp2_with fail
  refine (zopen_any gs rl22 se22c 0 (by decide) _ bx22 (by rw [bx22_len]; decide) 5 (by decide) w8 HS8.out.2.2.1 HS8.out.2.2.2.2.2.2.2.1 (HP.out.1.kept HS8.out.2.1) (HP.out.2.kept HS8.out.2.1)).mono ?_
  rw [ssO22b]
  rintro e w9 ⟨z, rfl, hO, hS9, hC9⟩
  obtain ⟨a1, c1, a2, c2, wa, wb, -, -, hblk, -, -⟩ := HS8.out.2.2.1.mem
  have hty := HS8.out.2.2.2.2.2.2.2.2.past16 hblk (snC_no8 _ _ _ _ _ _ _ _ _ _ _ _ _) hC9
  have HS9 : Hid (BlkAt g 24 (rlC rl22) w9 ∧ Below w.heap.size w w9 ∧ SnP gs rl22 se22c w9 ∧ BlkAt gt 73 (tiC rl22 0 0) w9 ∧ Rd w9 (.slice ay tx22.length cy) tx22) := ⟨HS8.out.1.chg hC9 (by have := HS8.out.2.2.2.2.2.2.1; omega), Chg.gone HS8.out.2.1 hC9 HS8.out.2.1.size HS8.out.2.2.2.1, hS9, HS8.out.2.2.2.2.1.chg hC9 (by have := HS8.out.2.2.2.2.2.1; omega), hty⟩
  clear hO hS9 hC9 hty hblk HS8
  go_wp2_with (refine wpList_loadRl _ rfl rfl HS9.out.1 (by go_simp; done) ?_)
  refine (cwait_any rl22 rl22_ok 0 (by decide) _ rfl _).mono ?_
  rw [wt22.1]
  rintro e w10 ⟨rfl, b10⟩
  have HS10 : Hid (BlkAt g 24 (rlC rl22) w10 ∧ Below w.heap.size w w10 ∧ SnP gs rl22 se22c w10 ∧ BlkAt gt 73 (tiC rl22 0 0) w10 ∧ Rd w10 (.slice ay tx22.length cy) tx22) := ⟨HS9.out.1.kept b10, stepB HS9.out.2.1 b10, HS9.out.2.2.1.kept b10, HS9.out.2.2.2.1.kept b10, HS9.out.2.2.2.2.kept b10⟩
  clear b10 HS9
  go_wp2_with (refine wpList_loadRl _ rfl rfl HS10.out.1 (by go_simp; done) ?_)
  refine (cwait_any rl22 rl22_ok 2 (by decide) _ rfl _).mono ?_
  rw [wt22.2.1]
  rintro e w11 ⟨rfl, b11⟩
  have HS11 : Hid (BlkAt g 24 (rlC rl22) w11 ∧ Below w.heap.size w w11 ∧ SnP gs rl22 se22c w11 ∧ BlkAt gt 73 (tiC rl22 0 0) w11 ∧ Rd w11 (.slice ay tx22.length cy) tx22) := ⟨HS10.out.1.kept b11, stepB HS10.out.2.1 b11, HS10.out.2.2.1.kept b11, HS10.out.2.2.2.1.kept b11, HS10.out.2.2.2.2.kept b11⟩
  clear b11 HS10
  go_wp2_with (refine wpList_loadRl _ rfl rfl HS11.out.1 (by go_simp; done) ?_)
  refine (cwait_any rl22 rl22_ok 3 (by decide) _ rfl _).mono ?_
  rw [wt22.2.2]
  rintro e w12 ⟨rfl, b12⟩
  have HS12 : Hid (Below w.heap.size w w12 ∧ SnP gs rl22 se22c w12 ∧ BlkAt gt 73 (tiC rl22 0 0) w12 ∧ Rd w12 (.slice ay tx22.length cy) tx22) := ⟨stepB HS11.out.2.1 b12, HS11.out.2.2.1.kept b12, HS11.out.2.2.2.1.kept b12, HS11.out.2.2.2.2.kept b12⟩
  have hcv := convS22 HS12.out.2.2.2
  clear b12 HS11
  go_wp2_with fail
  refine (csent_any gs rl22 se22c w12 HS12.out.2.1).mono ?_
  rintro e w13 ⟨rfl, rfl⟩
  clear hcv
  go_wp2_with fail
  refine (crekey_any gs rl22 se22c 50 (by decide) _ HS12.out.2.1).mono ?_
  rw [rk22.1]
  rintro e w14 ⟨rfl, b14⟩
  have HS14 : Hid (Below w.heap.size w w14 ∧ SnP gs rl22 se22c w14 ∧ BlkAt gt 73 (tiC rl22 0 0) w14) := ⟨stepB HS12.out.1 b14, HS12.out.2.1.kept b14, HS12.out.2.2.1.kept b14⟩
  clear b14 HS12
  go_wp2_with fail
  refine (cexpired_any gs rl22 se22c 99 (by decide) _ HS14.out.2.1).mono ?_
  rw [rk22.2]
  rintro e w15 ⟨rfl, b15⟩
  have HS15 : Hid (Below w.heap.size w w15 ∧ BlkAt gt 73 (tiC rl22 0 0) w15) := ⟨stepB HS14.out.1 b15, HS14.out.2.2.kept b15⟩
  clear b15 HS14
  go_wp2_with fail
  refine (cdue_any gt rl22 rl22_ok 0 0 4 (by decide) (by decide) (by decide) _ HS15.out.2).mono ?_
  rw [du22.1]
  rintro e w16 ⟨rfl, b16⟩
  have HS16 : Hid (Below w.heap.size w w16 ∧ BlkAt gt 73 (tiC rl22 0 0) w16) := ⟨stepB HS15.out.1 b16, HS15.out.2.kept b16⟩
  clear b16 HS15
  go_wp2_with fail
  refine (cdue_any gt rl22 rl22_ok 0 0 5 (by decide) (by decide) (by decide) _ HS16.out.2).mono ?_
  rw [du22.2.1]
  rintro e w17 ⟨rfl, b17⟩
  have HS17 : Hid (Below w.heap.size w w17 ∧ BlkAt gt 73 (tiC rl22 0 0) w17) := ⟨stepB HS16.out.1 b17, HS16.out.2.kept b17⟩
  clear b17 HS16
  go_wp2_with fail
  refine (cagain_any gt rl22 0 0 5 (by decide) rl22_ok _ HS17.out.2).mono ?_
  rw [du22.2.2]
  rintro e w18 ⟨rfl, -, c18⟩
  have HB18 : Hid (Below w.heap.size w w18) := Chg.gone HS17.out.1 c18 HS17.out.1.size HGt.out
  clear c18 HS17
  go_wp2
  go_ret
  exact ⟨rfl, HB18.out⟩
end Go.Proofs.YtliiofjcghdjoaaDoor
