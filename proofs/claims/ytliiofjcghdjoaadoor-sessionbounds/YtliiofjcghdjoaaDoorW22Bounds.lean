/- How many are sealed, and that none is opened twice: the law's walk. -/
import Derived.Test.YtliiofjcghdjoaaDoorBd22
import Derived.Test.YtliiofjcghdjoaaDoorSmt
import Derived.Test.YtliiofjcghdjoaaDoorBase
namespace Go.Proofs.YtliiofjcghdjoaaDoor
open Go.ChangeShapes Go.WideShapes Go.ChangeAt Go.RowKit
set_option linter.unusedSimpArgs false
set_option linter.unusedVariables false

theorem max_arr22 {l : List UInt8} {n : Nat} (h : l.length = n) (hn : n ≤ 1000) : (byI l).length ≤ maxLen := by
  rw [byI_length, h]
  unfold maxLen
  omega
theorem ne_arr22 {l : List UInt8} {n : Nat} (h : l.length = n) (hn : 0 < n) : byI l ≠ [] := byI_ne (by rw [← List.length_pos_iff]; omega)
theorem alloc_sn30 (w : World) : (Instr.alloc 69 true (.tuple #[])).run Tryd.prog w = .ok (.pointer (some ⟨w.heap.size, 0, none⟩)) (w.alloc (.cells (snL 30 []).toArray 69)) := by kernel_rfl
theorem infoU22 : ∃ i, Tryd.prog.info? 22 = some i ∧ i.zero = some (.int .u64 0) ∧ i.size = 1 ∧ i.bytes = 8 := by
  have h : (Tryd.prog.info? 22).map (fun i => (i.zero, i.size, i.bytes)) = some (some (.int .u64 0), 1, 8) := by kernel_rfl
  cases hi : Tryd.prog.info? 22 with
  | none => rw [hi] at h; cases h
  | some i =>
    rw [hi] at h
    simp only [Option.map_some, Option.some.injEq, Prod.mk.injEq] at h
    exact ⟨i, rfl, h.1, h.2.1, h.2.2⟩
theorem infoB22 : ∃ i, Tryd.prog.info? 40 = some i ∧ i.zero = some (.slice none 0 0) ∧ i.size = 1 ∧ i.bytes = 24 := by
  have h : (Tryd.prog.info? 40).map (fun i => (i.zero, i.size, i.bytes)) = some (some (.slice none 0 0), 1, 24) := by kernel_rfl
  cases hi : Tryd.prog.info? 40 with
  | none => rw [hi] at h; cases h
  | some i =>
    rw [hi] at h
    simp only [Option.map_some, Option.some.injEq, Prod.mk.injEq] at h
    exact ⟨i, rfl, h.1, h.2.1, h.2.2⟩
theorem wpList_append_num {base : Nat} {wr : World} {ops : Array Oper} {rest : List Oper} {o : Oper} {a : Act} {Q : Exit → Act → World → Prop} (hgd : o.guard = none) (s x : Operand)
    (ho : o.op = .call { callee := .builtin .append, args := #[s, x], argTypes := #[25, 25] }) (v : Value) (m : Nat) (hs : a.eval s = v) (hO : Zr 22 (.int .u64 0) base v (nV m) wr) (hbase : base ≤ wr.heap.size) (hm : m ≤ 1000)
    (g' c : Nat) (n : Nat) (hx : a.eval x = .slice (some ⟨g', 0, none⟩) 1 c) (hu : wr.cell? ⟨g', 0, none⟩ = some (.int .u64 (n : Int)))
    (h : ∀ v' w', Zr 22 (.int .u64 0) base v' (nV m ++ [.int .u64 (n : Int)]) w' → Chg (fun b => some b = v.ownBlock) wr w' → K8 wr w' → wpList Tryd.prog ops Q rest (a.put o.dst v') w') : wpList Tryd.prog ops Q (o :: rest) a wr := by
  obtain ⟨i, h1, h2, h3, h4⟩ := infoU22
  exact wpList_append_Z hgd s x 25 ho 22 i (.int .u64 0) Tryd.underlying25 h1 h2 h3 (by omega) rfl v (nV m) hs hO hbase (by rw [nV_length]; omega) g' c _ hx hu rfl (nV_8 m) (fun k e => by cases e) fun v' w' a1 a2 a3 a4 => h v' w' a1 a2 a3
theorem wpList_append_box {base : Nat} {wr : World} {ops : Array Oper} {rest : List Oper} {o : Oper} {a : Act} {Q : Exit → Act → World → Prop} (hgd : o.guard = none) (s x : Operand)
    (ho : o.op = .call { callee := .builtin .append, args := #[s, x], argTypes := #[52, 52] }) (v : Value) (bs : List Value) (hs : a.eval s = v) (hO : Zr 40 (.slice none 0 0) base v bs wr) (hbase : base ≤ wr.heap.size) (hm : bs.length ≤ 1000) (h8 : ∀ y ∈ bs, ∀ k, y ≠ .int .u8 k)
    (g' c : Nat) (A : Option Addr) (L C : Nat) (hx : a.eval x = .slice (some ⟨g', 0, none⟩) 1 c) (hu : wr.cell? ⟨g', 0, none⟩ = some (.slice A L C))
    (h : ∀ v' w', Zr 40 (.slice none 0 0) base v' (bs ++ [.slice A L C]) w' → Chg (fun b => some b = v.ownBlock) wr w' → K8 wr w' → wpList Tryd.prog ops Q rest (a.put o.dst v') w') : wpList Tryd.prog ops Q (o :: rest) a wr := by
  obtain ⟨i, h1, h2, h3, h4⟩ := infoB22
  exact wpList_append_Z hgd s x 52 ho 40 i (.slice none 0 0) Tryd.underlying52 h1 h2 h3 (by omega) rfl v bs hs hO hbase (by omega) g' c _ hx hu rfl h8 (fun k e => by cases e) fun v' w' a1 a2 a3 a4 => h v' w' a1 a2 a3

theorem rd_one22 {w : World} {e : TypeId} {b i : Nat} {c : UInt8} (hb : b = w.heap.size) (hc : c.toNat = i) : Rd (w.alloc (.cells #[.int .u8 (i : Int)] e)) (.slice (some ⟨b, 0, none⟩) 1 1) [c] := by
  subst hb hc
  exact Rd.lit1 c rfl
theorem cell_one22 {w : World} {e : TypeId} {v : Value} : (w.alloc (.cells #[v] e)).cell? ⟨w.heap.size, 0, none⟩ = some v := by
  unfold World.cell?
  rw [show (w.alloc (.cells #[v] e)).heap[w.heap.size]? = some (.cells #[v] e) from heap_alloc_new w _]
  rfl
theorem cell16k {w W : World} {p : Addr} {v : Value} (h : w.cell? p = some v) (hb : Below w.heap.size w W) : W.cell? p = some v := by
  rw [hb.cell (World.block_lt_of_cell? _ _ h)]
  exact h
theorem Zr.cellq {e : TypeId} {z : Value} {base g n c : Nat} {xs : List Value} {w : World} (h : Zr e z base (.slice (some ⟨g, 0, none⟩) n c) xs w) {i : Nat} (hi : i < xs.length) : w.cell? ⟨g, i, none⟩ = some (xs.getD i undef) := by
  obtain ⟨g', c', e1, -, -, h2⟩ := h.at hi
  simp only [Value.slice.injEq, Option.some.injEq, Addr.mk.injEq, and_true] at e1
  obtain ⟨rfl, -, -⟩ := e1
  exact h2
theorem below_alloc22 {w : World} {o : Obj} : Below w.heap.size w (w.alloc o) := growB o

/-- What opening one of what was sealed makes of it. -/
theorem open_facts {r : Rl} {key : List UInt8} (hk : key.length = 32) {q m : Nat} {came : List Nat} (hm : m ≤ 30) (hc : ∀ x ∈ came, x < m) (hq : q < m) (c : UInt8) (h : 0 < r.expire) :
    ∃ (came' : List Nat) (T : List UInt8) (E : Int) (D : Bool), ssO r (sbS key came) q (bxL key q c) 0 = (sbS key came', T, E) ∧ D = decide (q ∈ came) ∧ ((D = true ∧ E = 43) ∨ (D = false ∧ E = 0 ∧ T.length = 1)) ∧ (snL 30 came).set q (.bool true) = snL 30 came' ∧ ∀ x ∈ came', x < m := by
  have hs := sb_open (r := r) hk (k := q) (came := came) (fun x hx => by have := hc x hx; omega) (by omega) c h
  by_cases hq2 : q ∈ came
  · rw [if_pos hq2] at hs
    exact ⟨came, [], 43, true, hs, (decide_eq_true hq2).symm, .inl ⟨rfl, rfl⟩, snL_set 30 came came hq2 fun _ _ => Iff.rfl, hc⟩
  · rw [if_neg hq2] at hs
    refine ⟨came ++ [q], [c], 0, false, hs, (decide_eq_false hq2).symm, .inr ⟨rfl, rfl, rfl⟩, snL_set 30 came (came ++ [q]) (by simp) fun j hj => by simp [hj], fun x hx => ?_⟩
    rcases List.mem_append.1 hx with h1 | h1
    · exact hc x h1
    · rw [List.mem_singleton.1 h1]; exact hq

set_option maxRecDepth 100000 in
set_option maxHeartbeats 16000000 in
theorem bounds_walk (Ka : Array Value) (key : List UInt8) (hk32 : key.length = 32) (hKa : Ka = ((byI key).map (Value.int .u8)).toArray) (r : Rl) (hr : RlW r) (vt vo : Value) (ts : List Nat) (os : List Int) (w : World) (ht : NuI w vt ts) (ho : RdI .i64 w vo os) (hp : PlT w) (hk : KpT w) :
    Calls Tryd.prog 5 #[.agg Ka, .agg (rlC r).toArray, vt, vo] w fun e w' => e = .returned (.bool true) ∧ Below w.heap.size w w' := by
  have HP : Hid (PlT w ∧ KpT w) := ⟨hp, hk⟩
  have HR : Hid (RlW r) := hr
  have HK : Hid (key.length = 32) := hk32
  subst hKa
  obtain ⟨at', ct, rfl, -, -, -⟩ := id ht.rd
  rw [nU_length] at *
  obtain ⟨N, hN⟩ : ∃ N, N = ts.length := ⟨_, rfl⟩
  have HN : Hid (N = ts.length) := hN
  rw [← hN] at ht ⊢
  have HX : Hid (NuI w (.slice at' N ct) ts) := ht
  obtain ⟨ao, co, rfl, -, -, -⟩ := id ho
  obtain ⟨M, hM⟩ : ∃ N, N = os.length := ⟨_, rfl⟩
  have HM' : Hid (M = os.length) := hM
  rw [← hM] at ho ⊢
  have HO : Hid (RdI .i64 w (.slice ao M co) os) := ho
  clear hp hk hr ht ho hN hM
  go_enter Tryd.func5, Tryd.ntmps5
  go_wp2_with (refine wpList_box_row (k := .u8) rfl 67 _ rfl (byI key) (by rfl) (ne_arr22 hk32 (by decide)) (max_arr22 hk32 (by decide)) ?_)
  intro w1 rk bk sk
  rw [byI_length, hk32] at rk
  have hkr := rk.rdB
  rw [hk32] at hkr
  obtain ⟨gk, hgk⟩ : ∃ n : Nat, n = w.heap.size := ⟨_, rfl⟩
  rw [← hgk] at rk hkr ⊢
  have HK1 : Hid (Rd w1 (.slice (some ⟨gk, 0, none⟩) 32 32) key ∧ Below w.heap.size w w1) := ⟨hkr, bk⟩
  clear rk hkr bk sk hgk hk32
  go_wp2_with (refine wpList_box_blk rfl 24 _ rfl (rlC r) (by rfl) ?_)
  intro w2 r2 b2 s2
  obtain ⟨gr, hgr⟩ : ∃ n : Nat, n = w1.heap.size := ⟨_, rfl⟩
  rw [← hgr] at r2 ⊢
  have HK2 : Hid (Rd w2 (.slice (some ⟨gk, 0, none⟩) 32 32) key ∧ Below w.heap.size w w2 ∧ BlkAt gr 24 (rlC r) w2) := ⟨HK1.out.1.kept b2, stepB HK1.out.2 b2, r2⟩
  clear r2 b2 s2 hgr HK1
  go_wp2_with fail
  refine (awake_any w2 (HP.out.1.kept HK2.out.2.1) (HP.out.2.kept HK2.out.2.1)).mono ?_
  rintro e w3 ⟨rfl, b3⟩
  have HK3 : Hid (Rd w3 (.slice (some ⟨gk, 0, none⟩) 32 32) key ∧ Below w.heap.size w w3 ∧ BlkAt gr 24 (rlC r) w3) := ⟨HK2.out.1.kept b3, stepB HK2.out.2.1 b3, HK2.out.2.2.kept b3⟩
  clear b3 HK2
  go_wp2_with fail
  refine (zseal_none _ _ _).mono ?_
  rintro e w4 ⟨rfl, rfl⟩
  go_wp2_with fail
  refine (zopen_none _ _ _ _).mono ?_
  rintro e w5 ⟨rfl, rfl⟩
  go_wp2_with fail
  refine (csent_none _).mono ?_
  rintro e w6 ⟨rfl, rfl⟩
  go_wp2_with fail
  refine (crekey_none _ _).mono ?_
  rintro e w7 ⟨rfl, b7⟩
  go_wp2_with fail
  refine (cexpired_none _ _).mono ?_
  rintro e w8 ⟨rfl, b8⟩
  go_wp2_with fail
  refine (cdue_none _ _).mono ?_
  rintro e w9 ⟨rfl, b9⟩
  go_wp2_with fail
  refine (cagain_none _ _).mono ?_
  rintro e w10 ⟨rfl, b10⟩
  have hb10 := stepB (stepB (stepB b7 b8) b9) b10
  have HK10 : Hid (Rd w10 (.slice (some ⟨gk, 0, none⟩) 32 32) key ∧ Below w.heap.size w w10 ∧ BlkAt gr 24 (rlC r) w10) := ⟨HK3.out.1.kept hb10, stepB HK3.out.2.1 hb10, HK3.out.2.2.kept hb10⟩
  clear b7 b8 b9 b10 hb10 HK3
  go_wp2_with fail
  refine wpG_begin (by kernel_rfl) ?_
  refine gU_ 0 rfl ⟨_, by intro W hW; go_simp <;> with_reducible rfl, ?_⟩
  try simp only [Act.put, pA_, pB_, pC_]
  refine gU_ 1 rfl ⟨_, by intro W hW; refine Eq.trans (exec_build 46 _ (by rfl) #[(0, .slice (some ⟨gk, 0, none⟩) 32 32)] (by go_simp; done) _ (build_cp0 _ _ _ _)) ?_; with_reducible rfl, ?_⟩
  try simp only [Act.put, pA_, pB_, pC_]
  refine gU_ 2 rfl ⟨_, by intro W hW; go_simp <;> with_reducible rfl, ?_⟩
  try simp only [Act.put, pA_, pB_, pC_]
  refine gU_ 3 rfl ⟨_, by intro W hW; refine Eq.trans (exec_build 46 _ (by rfl) #[(0, .slice (some ⟨gk, 0, none⟩) 32 32)] (by go_simp; done) _ (build_cp0 _ _ _ _)) ?_; with_reducible rfl, ?_⟩
  try simp only [Act.put, pA_, pB_, pC_]
  refine gU_ 4 rfl ⟨_, by intro W hW; refine Eq.trans (exec_load_part 24 _ (by rfl) (by rfl) [] (rlC r) [] HK10.out.2.2.drew hW (by rfl) rfl Tryd.underlying24 rfl info_rl) ?_; with_reducible rfl, ?_⟩
  try simp only [Act.put, pA_, pB_, pC_]
  refine gD_ 5 fun K hK => ?_
  go_simp
  refine (cnew_any r (.slice (some ⟨gk, 0, none⟩) 32 32) (.slice (some ⟨gk, 0, none⟩) 32 32) key key 0 0 0 (by rw [HK.out]; decide) (by rw [HK.out]; decide) (by decide) (by decide) (by decide) _ _ _ rfl rfl rfl _ (HK10.out.1.kept (Below.refl _ w10).drew) (HK10.out.1.kept (Below.refl _ w10).drew)).mono ?_
  rintro e w11 ⟨ga, rfl, hga, hSa, b11⟩
  have HN11 : Hid (w10.drew.heap.size ≤ ga ∧ SnP ga r (saS key 0) w11 ∧ Below w10.drew.heap.size w10.drew w11) := ⟨hga, hSa, b11⟩
  refine hK.out _ _ HN11.out.2.2 ?_
  clear hK K
  try simp only [Act.put, pA_, pB_, pC_]
  refine gU_ 6 rfl ⟨_, by intro W hW; go_simp <;> with_reducible rfl, ?_⟩
  try simp only [Act.put, pA_, pB_, pC_]
  refine wpG_done (by kernel_rfl) ?_
  have hb11 : Below w10.heap.size w10 w11 := stepB (Below.refl _ w10).drew HN11.out.2.2
  have HK11 : Hid (Rd w11 (.slice (some ⟨gk, 0, none⟩) 32 32) key ∧ Below w.heap.size w w11 ∧ BlkAt gr 24 (rlC r) w11 ∧ SnP ga r (saS key 0) w11 ∧ w.heap.size ≤ ga) := ⟨HK10.out.1.kept hb11, stepB HK10.out.2.1 hb11, HK10.out.2.2.kept hb11, HN11.out.2.1, by have := HN11.out.1; have := HK10.out.2.1.size; exact Nat.le_trans this (by simpa using HN11.out.1)⟩
  clear hb11 HN11 HK10
  go_wp2_with fail
  refine wpG_begin (by kernel_rfl) ?_
  refine gU_ 0 rfl ⟨_, by intro W hW; go_simp <;> with_reducible rfl, ?_⟩
  try simp only [Act.put, pA_, pB_, pC_]
  refine gU_ 1 rfl ⟨_, by intro W hW; refine Eq.trans (exec_build 46 _ (by rfl) #[(0, .slice (some ⟨gk, 0, none⟩) 32 32)] (by go_simp; done) _ (build_cp0 _ _ _ _)) ?_; with_reducible rfl, ?_⟩
  try simp only [Act.put, pA_, pB_, pC_]
  refine gU_ 2 rfl ⟨_, by intro W hW; go_simp <;> with_reducible rfl, ?_⟩
  try simp only [Act.put, pA_, pB_, pC_]
  refine gU_ 3 rfl ⟨_, by intro W hW; refine Eq.trans (exec_build 46 _ (by rfl) #[(0, .slice (some ⟨gk, 0, none⟩) 32 32)] (by go_simp; done) _ (build_cp0 _ _ _ _)) ?_; with_reducible rfl, ?_⟩
  try simp only [Act.put, pA_, pB_, pC_]
  refine gU_ 4 rfl ⟨_, by intro W hW; refine Eq.trans (exec_load_part 24 _ (by rfl) (by rfl) [] (rlC r) [] HK11.out.2.2.1.drew hW (by rfl) rfl Tryd.underlying24 rfl info_rl) ?_; with_reducible rfl, ?_⟩
  try simp only [Act.put, pA_, pB_, pC_]
  refine gD_ 5 fun K hK => ?_
  go_simp
  refine (cnew_any r (.slice (some ⟨gk, 0, none⟩) 32 32) (.slice (some ⟨gk, 0, none⟩) 32 32) key key 0 0 0 (by rw [HK.out]; decide) (by rw [HK.out]; decide) (by decide) (by decide) (by decide) _ _ _ rfl rfl rfl _ (HK11.out.1.kept (Below.refl _ w11).drew) (HK11.out.1.kept (Below.refl _ w11).drew)).mono ?_
  rintro e w12 ⟨gb, rfl, hgb, hSb, b12⟩
  have HN12 : Hid (w11.drew.heap.size ≤ gb ∧ SnP gb r (sbS key []) w12 ∧ Below w11.drew.heap.size w11.drew w12) := ⟨hgb, hSb, b12⟩
  refine hK.out _ _ HN12.out.2.2 ?_
  clear hK K
  try simp only [Act.put, pA_, pB_, pC_]
  refine gU_ 6 rfl ⟨_, by intro W hW; go_simp <;> with_reducible rfl, ?_⟩
  try simp only [Act.put, pA_, pB_, pC_]
  refine wpG_done (by kernel_rfl) ?_
  have hb12 : Below w11.heap.size w11 w12 := stepB (Below.refl _ w11).drew HN12.out.2.2
  have hgb11 : w11.heap.size ≤ gb := by simpa using HN12.out.1
  have HI12 : Hid (Bd22 w gr ga gb r key 0 0 [] (.slice none 0 0) (.slice none 0 0) [] [] w12) := ⟨HK11.out.2.2.1.kept hb12, HK11.out.2.2.2.1.kept hb12, HN12.out.2.1, Zr.nil _ _ _ _, Zr.nil _ _ _ _, rfl, fun k hk => absurd hk (Nat.not_lt_zero _), (fun y hy => by cases hy), stepB HK11.out.2.1 hb12, by have := HK11.out.2.2.2.1.lt; omega, HK11.out.2.2.2.2, by have := HK11.out.2.1.size; omega⟩
  clear hb12 hgb11 HN12 HK11
  go_wp2
  go_loopw [21, 19, 20] (fun iv nv bv wr => ∃ (i : Nat) (cs : List UInt8) (bs : List Value), i ≤ 30 ∧ iv = .int .i64 (i : Int) ∧ Hid (Bd22 w gr ga gb r key cs.length cs.length cs nv bv bs [] wr ∧ cs.length ≤ i ∧ (0 < cs.length → 0 < r.expire))) (fun iv _ _ _ => 30 - (intOf iv).toNat)
  case atStart => exact ⟨0, [], [], by omega, rfl, HI12.out, by simp, by simp⟩
  case round =>
    obtain ⟨i, cs, bs, hi, rfl, HI⟩ := hrel
    obtain ⟨m, hm⟩ : ∃ m, m = cs.length := ⟨_, rfl⟩
    rw [← hm] at HI
    have HM : Hid (m = cs.length ∧ bs.length = m) := ⟨hm, by rw [hm]; exact HI.out.1.len⟩
    obtain ⟨ab, cb, rfl, hcb, hmb⟩ := HI.out.1.box.form
    rw [HM.out.2] at HI hcb ⊢
    unfold maxLen at hmb
    have HCb : Hid (m ≤ cb ∧ cb ≤ 9223372036854775807) := ⟨hcb, hmb⟩
    have hmi : m ≤ i := HI.out.2.1
    have hwm : IntKind.u64.wrap (m : Int) = (m : Int) := by rw [IntKind.wrap_u64]; omega
    clear hm hcb hmb
    by_cases hgo : i < N ∧ i < 30
    · obtain ⟨hlt, h30⟩ := hgo
      have d1 : decide ((i : Int) < (N : Int)) = true := decide_eq_true (by omega)
      have d1N : decide (i < N) = true := decide_eq_true hlt
      have d2 : decide ((i : Int) < 30) = true := decide_eq_true (by omega)
      have d2N : decide (i < 30) = true := decide_eq_true h30
      have hiN : (i : Int) < (N : Int) := by omega
      obtain ⟨bx, ox, rfl, hcx, ht64⟩ := HX.out.at rfl HI.out.1.below (i := i) (by rw [← HN.out]; exact hlt)
      obtain ⟨t, ht⟩ : ∃ t, t = ts.getD i 0 := ⟨_, rfl⟩
      have HCx : Hid (∀ W, Below w.heap.size w W → W.cell? ⟨bx, ox + i, none⟩ = some (.int .u64 (t : Int))) := fun W hW => by
        obtain ⟨b', o', e1, h2, -⟩ := HX.out.at rfl hW (i := i) (by rw [← HN.out]; exact hlt)
        simp only [Option.some.injEq, Addr.mk.injEq, and_true] at e1
        obtain ⟨rfl, rfl⟩ := e1
        rw [ht]
        exact h2
      rw [← ht] at ht64 hcx
      have HT64 : Hid (t < 18446744073709551616) := ht64
      obtain ⟨c, hc⟩ : ∃ c : UInt8, c.toNat = i := ⟨UInt8.ofNat i, by rw [UInt8.toNat_ofNat']; omega⟩
      have HC : Hid (c.toNat = i) := hc
      have hw8 : IntKind.u8.wrap (i : Int) = (i : Int) := by rw [IntKind.wrap_u8]; omega
      have ei : IntKind.i64.wrap ((i : Int) + 1) = ((i + 1 : Nat) : Int) := by rw [IntWalk.i64_in _ (by omega)]; omega
      have HI1 : Hid (i + 1 ≤ 30 ∧ m < 30) := (⟨h30, by omega⟩ : _ ∧ _)
      obtain ⟨w13, hw13⟩ : ∃ w13, w13 = wr.alloc (.cells #[.int .u8 (i : Int)] 5) := ⟨_, rfl⟩
      have hb13 : Below wr.heap.size wr w13 := by rw [hw13]; exact growB _
      have HR13 : Hid (Rd w13 (.slice (some ⟨wr.heap.size, 0, none⟩) 1 1) [c]) := by
        show Rd _ _ _
        rw [hw13]
        exact rd_one22 rfl hc
      have HI13 : Hid (Bd22 w gr ga gb r key m m cs _ _ bs [] w13 ∧ m ≤ i ∧ (0 < m → 0 < r.expire)) := ⟨HI.out.1.kept hb13, HI.out.2⟩
      have hcx13 : (wr.alloc (.cells #[.int .u8 (i : Int)] 5)).cell? ⟨bx, ox + i, none⟩ = some (.int .u64 (t : Int)) := HCx.out _ (by rw [← hw13]; exact HI13.out.1.below)
      clear ht ht64 hc hlt h30 HI12 hi hmi HI hb13 hcx
      go_wp2_with fail
      rw [← hw13]
      clear hcx13 hw13
      have HMi0 : Hid (m ≤ i) := HI13.out.2.1
      obtain ⟨E, hE⟩ : ∃ E, E = r.expire := ⟨_, rfl⟩
      obtain ⟨C, hC⟩ : ∃ C, C = r.ecount := ⟨_, rfl⟩
      have HEC : Hid (E = r.expire ∧ C = r.ecount) := ⟨hE, hC⟩
      have HCl : Hid (∀ W, BlkAt gr 24 (rlC r) W → W.cell? ⟨gr, 4, none⟩ = some (.int .u64 (E : Int)) ∧ W.cell? ⟨gr, 6, none⟩ = some (.int .u64 (C : Int))) := fun W hB => by
        rw [hE, hC]
        exact ⟨hB.cell 4, hB.cell 6⟩
      by_cases hq : t < E ∧ m < C
      · have hq2 : t < r.expire ∧ m < r.ecount := by rw [← hE, ← hC]; exact hq
        refine (zseal_any ga r HR.out (saS key m) _ [c] (by simp) t HT64.out w13 HI13.out.1.sa HR13.out (HP.out.1.kept HI13.out.1.below) (HP.out.2.kept HI13.out.1.below)).mono ?_
        rw [sa_ok HK.out (by have := HI1.out.2; omega) c hq2]
        rintro e w14 ⟨x, rfl, hO14, hS14, hC14⟩
        have hr14 := hO14.rd
        obtain ⟨ax, kx, rfl, -⟩ := id hr14
        have hbl : (bxL key m c).length = 17 := bx_len HK.out (by have := HI1.out.2; omega) c
        rw [hbl] at hr14 ⊢
        have HI14 : Hid (Bd22 w gr ga gb r key (m + 1) m cs _ _ bs [] w14 ∧ Rd w14 (.slice ax 17 kx) (bxL key m c)) := ⟨HI13.out.1.seal0 hC14 hS14, hr14⟩
        obtain ⟨c4, c6⟩ := HCl.out w14 HI14.out.1.rul
        have hcx14 := HCx.out w14 HI14.out.1.below
        have d3 : decide ((t : Int) < (E : Int)) = true := decide_eq_true (by omega)
        have d3N : decide (t < E) = true := decide_eq_true hq.1
        have d4 : decide ((m : Int) < (C : Int)) = true := decide_eq_true (by omega)
        have d4N : decide (m < C) = true := decide_eq_true hq.2
        have HE0 : Hid (0 < r.expire) := (by rw [← hE]; omega : 0 < r.expire)
        clear hr14 hbl hO14 hS14 hC14 HI13 HR13 hq hq2 hE hC
        go_upto_region 20 with (go_quiet (fail))
        have hb15 := below_drewN22 (Below.refl w14.heap.size w14) nq
        generalize w14.drewN nq = w15 at hb15 ⊢
        have HI15 : Hid (Bd22 w gr ga gb r key (m + 1) m cs _ _ bs [] w15 ∧ Rd w15 (.slice ax 17 kx) (bxL key m c)) := ⟨HI14.out.1.kept hb15, HI14.out.2.kept hb15⟩
        have HG15 : Hid (Bd22 w gr ga gb r key (m + 1) m cs _ _ bs [] (w15.alloc (.cells #[.int .u64 (m : Int)] 22)) ∧ Rd (w15.alloc (.cells #[.int .u64 (m : Int)] 22)) (.slice ax 17 kx) (bxL key m c)) := ⟨HI15.out.1.kept (growB _), HI15.out.2.kept (growB _)⟩
        clear hb15 HI14 c4 c6 hcx14 d3 d3N d4 d4N
        go_wp2_with (at_builtin; go_must (refine wpList_append_num rfl _ _ rfl _ m rfl HG15.out.1.num HG15.out.1.below.size (by have := HI1.out.2; omega) w15.heap.size 1 m rfl cell_one22 ?_))
        intro vn' w16 hz16 hc16 hk16
        have HI16 : Hid (Bd22 w gr ga gb r key (m + 1) (m + 1) cs vn' _ bs [] w16 ∧ Rd w16 (.slice ax 17 kx) (bxL key m c)) := ⟨HG15.out.1.numb hz16 hc16 hk16, HG15.out.2.k8 hk16⟩
        have HG16 : Hid (Bd22 w gr ga gb r key (m + 1) (m + 1) cs vn' _ bs [] (w16.alloc (.cells #[.slice ax 17 kx] 40)) ∧ Rd (w16.alloc (.cells #[.slice ax 17 kx] 40)) (.slice ax 17 kx) (bxL key m c)) := ⟨HI16.out.1.kept (growB _), HI16.out.2.kept (growB _)⟩
        clear hz16 hc16 hk16 HI15 HG15
        go_wp2_with (at_builtin; go_must (refine wpList_append_box rfl _ _ rfl _ bs rfl HG16.out.1.box HG16.out.1.below.size (by have := HI1.out.2; have := HM.out.2; omega) HG16.out.1.form w16.heap.size 1 ax 17 kx rfl cell_one22 ?_))
        intro vb' w17 hz17 hc17 hk17
        have HI17 : Hid (Bd22 w gr ga gb r key (m + 1) (m + 1) (cs ++ [c]) vn' vb' (bs ++ [.slice ax 17 kx]) [] w17) := HG16.out.1.boxd ax kx c hz17 hc17 hk17 (by rw [← HM.out.1]; exact HG16.out.2)
        have HL17 : Hid ((cs ++ [c]).length = m + 1) := (by rw [List.length_append, ← HM.out.1]; rfl : (cs ++ [c]).length = m + 1)
        have HMi : Hid (m + 1 ≤ i + 1) := (by have := HMi0.out; omega : m + 1 ≤ i + 1)
        clear hz17 hc17 hk17 HI16 HG16
        go_wp2
        go_roundw
        case rel => exact ⟨i + 1, cs ++ [c], bs ++ [.slice ax 17 kx], HI1.out.1, by go_num, by rw [HL17.out]; exact HI17.out, by rw [HL17.out]; exact HMi.out, fun _ => HE0.out⟩
        case measure => have := HI1.out.1; simp [intOf] <;> omega
      · have hq2 : ¬ (t < r.expire ∧ m < r.ecount) := by rw [← hE, ← hC]; exact hq
        refine (zseal_any ga r HR.out (saS key m) _ [c] (by simp) t HT64.out w13 HI13.out.1.sa HR13.out (HP.out.1.kept HI13.out.1.below) (HP.out.2.kept HI13.out.1.below)).mono ?_
        rw [sa_no c hq2]
        rintro e w14 ⟨x, rfl, hO14, hS14, hC14⟩
        obtain ⟨ax, kx, rfl, -⟩ := id hO14.rd
        have HI14 : Hid (Bd22 w gr ga gb r key m m cs _ _ bs [] w14) := HI13.out.1.seal0 hC14 hS14
        have HX14 : Hid (m ≤ i ∧ (0 < m → 0 < r.expire)) := HI13.out.2
        obtain ⟨c4, c6⟩ := HCl.out w14 HI14.out.rul
        have hcx14 := HCx.out w14 HI14.out.below
        have hway : (decide ((t : Int) < (E : Int)) = true ∧ decide (t < E) = true ∧ decide ((m : Int) < (C : Int)) = false ∧ decide (m < C) = false) ∨ (decide ((t : Int) < (E : Int)) = false ∧ decide (t < E) = false) := by
          by_cases h : t < E
          · have h2 : ¬ m < C := fun h3 => hq ⟨h, h3⟩
            exact .inl ⟨decide_eq_true (by omega), decide_eq_true h, decide_eq_false (by omega), decide_eq_false h2⟩
          · exact .inr ⟨decide_eq_false (by omega), decide_eq_false h⟩
        clear hO14 hS14 hC14 HI13 HR13 hq hq2 hE hC
        rcases hway with ⟨d3, d3N, d4, d4N⟩ | ⟨d3, d3N⟩
        all_goals
          go_upto_region 20 with (go_quiet (fail))
          have hb15 := below_drewN22 (Below.refl w14.heap.size w14) nq
          generalize w14.drewN nq = w15 at hb15 ⊢
          have HI15 : Hid (Bd22 w gr ga gb r key m m cs _ _ bs [] w15) := HI14.out.kept hb15
          clear hb15 HI14 c4 c6 hcx14
          go_wp2
          go_roundw
          case' rel => exact ⟨i + 1, cs, bs, HI1.out.1, by go_num, by rw [← HM.out.1]; exact HI15.out, by rw [← HM.out.1]; have := HX14.out.1; omega, by rw [← HM.out.1]; exact HX14.out.2⟩
          case' measure => (have := HI1.out.1; simp [intOf] <;> omega)
    · have hway : (decide ((i : Int) < (N : Int)) = true ∧ decide (i < N) = true ∧ decide ((i : Int) < 30) = false ∧ decide (i < 30) = false) ∨ (decide ((i : Int) < (N : Int)) = false ∧ decide (i < N) = false) := by
        by_cases h : i < N
        · have h2 : ¬ i < 30 := fun h3 => hgo ⟨h, h3⟩
          exact .inl ⟨decide_eq_true (by omega), decide_eq_true h, decide_eq_false (by omega), decide_eq_false h2⟩
        · exact .inr ⟨decide_eq_false (by omega), decide_eq_false h⟩
      obtain ⟨an, cn, rfl, hcn, hmn⟩ := HI.out.1.num.form
      rw [nV_length] at HI hcn ⊢
      unfold maxLen at hmn
      have HCn : Hid (m ≤ cn ∧ cn ≤ 9223372036854775807) := ⟨hcn, hmn⟩
      have HI13 : Hid (Bd22 w gr ga gb r key m m cs (.slice an m cn) (.slice ab m cb) bs [] wr ∧ m ≤ 30 ∧ (0 < m → 0 < r.expire)) := ⟨HI.out.1, by omega, HI.out.2.2⟩
      clear HI12 HI hi hmi hgo hcn hmn
      rcases hway with ⟨d1, d1N, d2, d2N⟩ | ⟨d1, d1N⟩
      all_goals
        go_wp2_with (refine wpList_alloc_blk rfl 69 rfl (snL 30 []) (alloc_sn30 _) ?_)
        intro w13 r13 b13 s13
        obtain ⟨gs, hgs⟩ : ∃ n : Nat, n = wr.heap.size := ⟨_, rfl⟩
        rw [← hgs] at r13 ⊢
        have HI14 : Hid (Bd22 w gr ga gb r key m m cs (.slice an m cn) (.slice ab m cb) bs [] w13 ∧ BlkAt gs 69 (snL 30 []) w13) := ⟨HI13.out.1.kept b13, r13⟩
        have HG : Hid (w.heap.size ≤ gs ∧ gb < gs) := (by have := HI13.out.1.sb.lt; have := HI13.out.1.below.size; exact ⟨by omega, by omega⟩ : _ ∧ _)
        have HM30 : Hid (m ≤ 30 ∧ (0 < m → 0 < r.expire)) := HI13.out.2
        clear r13 b13 s13 hgs HI13
        go_wp2
        go_loopw [26] (fun iv wx => ∃ (j : Nat) (came : List Nat), j ≤ 60 ∧ iv = .int .i64 (j : Int) ∧ Hid (Bd22 w gr ga gb r key m m cs (.slice an m cn) (.slice ab m cb) bs came wx ∧ BlkAt gs 69 (snL 30 came) wx ∧ ∀ x ∈ came, x < m)) (fun iv _ => 60 - (intOf iv).toNat)
        case atStart => exact ⟨0, [], by omega, rfl, HI14.out.1, HI14.out.2, fun x hx => by cases hx⟩
        case round =>
          rename World => wx
          obtain ⟨j, came, hj, rfl, HI⟩ := hrel
          clear HI14
          by_cases hgo : j < M ∧ j < 60 ∧ 0 < m
          · obtain ⟨hlt, h60, hm0⟩ := hgo
            have d3 : decide ((j : Int) < (M : Int)) = true := decide_eq_true (by omega)
            have d3N : decide (j < M) = true := decide_eq_true hlt
            have d4 : decide ((j : Int) < 60) = true := decide_eq_true (by omega)
            have d4N : decide (j < 60) = true := decide_eq_true h60
            have d5 : decide ((0 : Int) < (m : Int)) = true := decide_eq_true (by omega)
            have d5N : decide (0 < m) = true := decide_eq_true hm0
            have hjM : (j : Int) < (M : Int) := by omega
            obtain ⟨bo, oo, capo, eo, -, hco, -⟩ := (HO.out.kept HI.out.1.below).cellAt (i := j) (by rw [← HM'.out]; exact hlt)
            simp only [Value.slice.injEq] at eo
            obtain ⟨rfl, -, -⟩ := eo
            obtain ⟨X, hX, hand⟩ := and_small (os.getD j 0) 65535 (by decide)
            generalize os.getD j 0 = o at hco hand
            have hand' : bits .and .i64 o 65535 = (X : Int) := hand
            obtain ⟨q, hq⟩ : ∃ q : Nat, q = X % m := ⟨_, rfl⟩
            have hqm : q < m := by rw [hq]; exact Nat.mod_lt _ hm0
            have e1 : ((X : Nat) : Int).tmod (m : Int) = (q : Int) := by rw [Int.tmod_eq_emod_of_nonneg (by omega), hq]; exact (Int.natCast_emod X m).symm
            have e2 : ((X : Nat) : Int) % (m : Int) = (q : Int) := by rw [hq]; exact (Int.natCast_emod X m).symm
            have hmz : ¬ (m : Int) = 0 := by omega
            have hmzN : ¬ m = 0 := by omega
            have hmzd : ((m : Int) == 0) = false := by rw [beq_eq_false_iff_ne]; omega
            have hm1 : ((m : Int) == -1) = false := by rw [beq_eq_false_iff_ne]; omega
            have hqw : IntKind.i64.wrap (q : Int) = (q : Int) := IntWalk.i64_in _ (by have := HM30.out.1; omega)
            have hq30 : (q : Int) < 30 := by have := HM30.out.1; omega
            have hq30N : q < 30 := by have := HM30.out.1; omega
            have hqmI : (q : Int) < (m : Int) := by omega
            have ei : IntKind.i64.wrap ((j : Int) + 1) = ((j + 1 : Nat) : Int) := by rw [IntWalk.i64_in _ (by omega)]; omega
            have HJ : Hid (j + 1 ≤ 60) := h60
            have hex : 0 < r.expire := HM30.out.2 hm0
            obtain ⟨came', T, E, D, hS, hD, hE, hset, hcl⟩ := open_facts (r := r) HK.out HM30.out.1 HI.out.2.2 hqm (cs.getD q 0) hex
            obtain ⟨gn, kn, en, -, -, hcn⟩ := HI.out.1.num.at (i := q) (by rw [nV_length]; exact hqm)
            simp only [Value.slice.injEq] at en
            obtain ⟨rfl, -, -⟩ := en
            rw [nV_getD hqm] at hcn
            obtain ⟨gx, kb, eb, -, -, hcb⟩ := HI.out.1.box.at (i := q) (by rw [HM.out.2]; exact hqm)
            simp only [Value.slice.injEq] at eb
            obtain ⟨rfl, -, -⟩ := eb
            obtain ⟨ax, kx, ex, hrx⟩ := HI.out.1.row q (by rw [← HM.out.1]; exact hqm)
            rw [ex] at hcb
            have HCn2 : Hid (∀ (cm : List Nat) (W : World), Bd22 w gr ga gb r key m m cs (.slice (some ⟨gn, 0, none⟩) m cn) (.slice (some ⟨gx, 0, none⟩) m cb) bs cm W → W.cell? ⟨gn, q, none⟩ = some (.int .u64 (q : Int)) ∧ W.cell? ⟨gx, q, none⟩ = some (.slice ax 17 kx)) := fun cm W hW => by
              have h1 := hW.num.cellq (i := q) (by rw [nV_length]; exact hqm)
              have h2 := hW.box.cellq (i := q) (by rw [HM.out.2]; exact hqm)
              rw [nV_getD hqm] at h1
              rw [ex] at h2
              exact ⟨h1, h2⟩
            have HRx : Hid (Rd wx (.slice ax 17 kx) (bxL key q (cs.getD q 0)) ∧ (bxL key q (cs.getD q 0)).length ≤ 3000000) := ⟨hrx, by rw [bx_len HK.out (by omega)]; decide⟩
            obtain ⟨Ex, hEx⟩ : ∃ Ex, Ex = r.expire := ⟨_, rfl⟩
            have hEz : ((Ex : Int) == 0) = false := by rw [beq_eq_false_iff_ne]; omega
            have HEx : Hid (Ex = r.expire) := hEx
            have HD : Hid (D = decide (q ∈ came)) := hD
            have HS : Hid (ssO r (sbS key came) q (bxL key q (cs.getD q 0)) 0 = (sbS key came', T, E)) := hS
            have HE : Hid ((D = true ∧ E = 43) ∨ (D = false ∧ E = 0 ∧ T.length = 1)) := hE
            have HSet : Hid ((snL 30 came).set q (.bool true) = snL 30 came' ∧ (∀ x ∈ came', x < m) ∧ q < m) := ⟨hset, hcl, hqm⟩
            clear hX hand hq hlt h60 hm0 hj hqm hex hS hD hE hset hcl hcn hcb ex hrx hEx
            go_wp2_with fail
            have hS := HCn2.out came wx.drew (HI.out.1.kept (Below.refl _ wx).drew)
            refine wpS_begin (fun W => W.cell? ⟨gn, q, none⟩ = some (.int .u64 (q : Int)) ∧ W.cell? ⟨gx, q, none⟩ = some (.slice ax 17 kx)) (by kernel_rfl) ?_
            refine sU_ hS 0 rfl ⟨_, by intro W hW; go_simp <;> with_reducible rfl, ?_⟩
            try simp only [Act.put, pA_, pB_, pC_]
            refine sU_ hS 1 rfl ⟨_, by intro W hW; go_simp <;> with_reducible rfl, ?_⟩
            try simp only [Act.put, pA_, pB_, pC_]
            refine sU_ hS 2 rfl ⟨_, by intro W hW; go_simp <;> with_reducible rfl, ?_⟩
            try simp only [Act.put, pA_, pB_, pC_]
            refine sU_ hS 3 rfl ⟨_, by intro W hW; go_simp <;> with_reducible rfl, ?_⟩
            try simp only [Act.put, pA_, pB_, pC_]
            refine sU_ hS 4 rfl ⟨_, by intro W hW; have cW := hW.1; go_simp <;> with_reducible rfl, ?_⟩
            try simp only [Act.put, pA_, pB_, pC_]
            refine sU_ hS 5 rfl ⟨_, by intro W hW; go_simp <;> with_reducible rfl, ?_⟩
            try simp only [Act.put, pA_, pB_, pC_]
            refine sU_ hS 6 rfl ⟨_, by intro W hW; go_simp <;> with_reducible rfl, ?_⟩
            try simp only [Act.put, pA_, pB_, pC_]
            refine sU_ hS 7 rfl ⟨_, by intro W hW; go_simp <;> with_reducible rfl, ?_⟩
            try simp only [Act.put, pA_, pB_, pC_]
            refine sU_ hS 8 rfl ⟨_, by intro W hW; have cW := hW.2; go_simp <;> with_reducible rfl, ?_⟩
            try simp only [Act.put, pA_, pB_, pC_]
            refine sD_ 9 fun K hK => ?_
            go_simp
            refine (zopen_any gb r (sbS key came) q (by have := HSet.out.2.2; have := HM30.out.1; omega) _ _ HRx.out.2 0 (by decide) _ (HI.out.1.sb.kept (Below.refl _ wx).drew) (HRx.out.1.kept (Below.refl _ wx).drew) ((HP.out.1.kept HI.out.1.below).kept (Below.refl _ wx).drew) ((HP.out.2.kept HI.out.1.below).kept (Below.refl _ wx).drew)).mono ?_
            rw [HS.out]
            rintro e wy ⟨z, rfl, hOz, hSz, hCz⟩
            obtain ⟨az, kz, rfl, -⟩ := id hOz.rd
            have HIy : Hid (Bd22 w gr ga gb r key m m cs (.slice (some ⟨gn, 0, none⟩) m cn) (.slice (some ⟨gx, 0, none⟩) m cb) bs came' wy ∧ BlkAt gs 69 (snL 30 came) wy) := ⟨(HI.out.1.kept (Below.refl _ wx).drew).open hCz hSz, (HI.out.2.1.kept (Below.refl _ wx).drew).chg hCz (by have := HG.out.2; omega)⟩
            have hS := HCn2.out came' wy HIy.out.1
            refine hK.out _ _ hS ?_
            clear hK K
            try simp only [Act.put, pA_, pB_, pC_]
            refine sU_ hS 10 rfl ⟨_, by intro W hW; go_simp <;> with_reducible rfl, ?_⟩
            try simp only [Act.put, pA_, pB_, pC_]
            refine sU_ hS 11 rfl ⟨_, by intro W hW; go_simp <;> with_reducible rfl, ?_⟩
            try simp only [Act.put, pA_, pB_, pC_]
            refine sU_ hS 12 rfl ⟨_, by intro W hW; go_simp <;> with_reducible rfl, ?_⟩
            try simp only [Act.put, pA_, pB_, pC_]
            refine sU_ hS 13 rfl ⟨_, by intro W hW; go_simp <;> with_reducible rfl, ?_⟩
            try simp only [Act.put, pA_, pB_, pC_]
            refine sU_ hS 14 rfl ⟨_, by intro W hW; go_simp <;> with_reducible rfl, ?_⟩
            try simp only [Act.put, pA_, pB_, pC_]
            refine wpS_done (by kernel_rfl) ?_
            clear hOz hSz hCz HI HRx HS HCn2 hS
            have c4 : wy.cell? ⟨gr, 4, none⟩ = some (.int .u64 (Ex : Int)) := by rw [HEx.out]; exact HIy.out.1.rul.cell 4
            have cs' : wy.cell? ⟨gs, q, none⟩ = some (.bool D) := by rw [HIy.out.2.cell, snL_get 30 came hq30N, HD.out]
            have fs' := HIy.out.2.free q
            have hblk := HIy.out.2.set q (.bool true)
            rw [HSet.out.1] at hblk
            have HIz : Hid (Bd22 w gr ga gb r key m m cs (.slice (some ⟨gn, 0, none⟩) m cn) (.slice (some ⟨gx, 0, none⟩) m cb) bs came' (wy.setCell ⟨gs, q, none⟩ (.bool true)) ∧ BlkAt gs 69 (snL 30 came') (wy.setCell ⟨gs, q, none⟩ (.bool true))) := ⟨HIy.out.1.past HIy.out.2 (snL_no8 _ _) (Chg.of_wrote (Wrote.set gs q wy (.bool true))) HG.out.1 (by decide) (by decide) (by decide) (by decide), hblk⟩
            clear hblk HIy
            rcases HE.out with ⟨p1, p2⟩ | ⟨p1, p2, p3⟩
            · subst p1 p2
              go_wp2
              go_roundw
              case rel => exact ⟨j + 1, came', HJ.out, by go_num, HIz.out.1, HIz.out.2, HSet.out.2.1⟩
              case measure => have := HJ.out; simp [intOf] <;> omega
            · subst p1 p2
              rw [p3]
              go_wp2
              go_roundw
              case rel => exact ⟨j + 1, came', HJ.out, by go_num, HIz.out.1, HIz.out.2, HSet.out.2.1⟩
              case measure => have := HJ.out; simp [intOf] <;> omega
          · have hout : (decide ((j : Int) < (M : Int)) = true ∧ decide (j < M) = true ∧ decide ((j : Int) < 60) = true ∧ decide (j < 60) = true ∧ decide ((0 : Int) < (m : Int)) = false ∧ decide (0 < m) = false) ∨ (decide ((j : Int) < (M : Int)) = true ∧ decide (j < M) = true ∧ decide ((j : Int) < 60) = false ∧ decide (j < 60) = false) ∨ (decide ((j : Int) < (M : Int)) = false ∧ decide (j < M) = false) := by
              by_cases h : j < M
              · by_cases h2 : j < 60
                · have h3 : ¬ 0 < m := fun h4 => hgo ⟨h, h2, h4⟩
                  exact .inl ⟨decide_eq_true (by omega), decide_eq_true h, decide_eq_true (by omega), decide_eq_true h2, decide_eq_false (by omega), decide_eq_false h3⟩
                · exact .inr (.inl ⟨decide_eq_true (by omega), decide_eq_true h, decide_eq_false (by omega), decide_eq_false h2⟩)
              · exact .inr (.inr ⟨decide_eq_false (by omega), decide_eq_false h⟩)
            have HIe : Hid (SnP ga r (saS key m) wx ∧ Below w.heap.size w wx) := ⟨HI.out.1.sa, HI.out.1.below⟩
            clear hgo HI hj
            rcases hout with ⟨q1, q2, q3, q4, q5, q6⟩ | ⟨q1, q2, q3, q4⟩ | ⟨q1, q2⟩
            all_goals
              go_wp2_with fail
              refine (csent_any ga r (saS key m) _ HIe.out.1).mono ?_
              rintro e w20 ⟨rfl, rfl⟩
              go_wp2
              go_ret
              exact ⟨by simp [saS], HIe.out.2⟩
end Go.Proofs.YtliiofjcghdjoaaDoor
