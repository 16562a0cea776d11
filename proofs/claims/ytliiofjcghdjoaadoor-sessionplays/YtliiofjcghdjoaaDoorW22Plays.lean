/- Two sessions under any script: the law's walk. -/
import Derived.Test.YtliiofjcghdjoaaDoorPl22
import Derived.Test.YtliiofjcghdjoaaDoorPlO22
import Derived.Test.YtliiofjcghdjoaaDoorSsMath7
import Derived.Deep.DeepCutAuto
namespace Go.Proofs.YtliiofjcghdjoaaDoor
open Go.ChangeShapes Go.WideShapes Go.ChangeAt Go.RowKit
set_option linter.unusedSimpArgs false
set_option linter.unusedVariables false

theorem wp_alloc_p22 {P : Program} {w0 : World} {op : Oper} {a : Act} {w : World} {K : Act → World → Prop} {Q : Exit → Act → World → Prop} (hB : Below w0.heap.size w0 w) (ty : TypeId) (ho : op.op = .alloc ty) (cs : List Value)
    (hrun : (Instr.alloc ty true (.tuple #[])).run P w = .ok (.pointer (some ⟨w.heap.size, 0, none⟩)) (w.alloc (.cells cs.toArray ty)))
    (h : ∀ g w', BlkAt g ty cs w' → w0.heap.size ≤ g → Below w0.heap.size w0 w' → Below w.heap.size w w' → w.heap.size ≤ g → K (a.put op.dst (.pointer (some ⟨g, 0, none⟩))) w') : op.wp P a w K Q := by
  unfold Oper.wp execOp
  simp only [ho, Sem.run_bind, hrun, Result.andThen_ok, Sem.run_pure]
  exact h _ _ (BlkAt.fresh rfl rfl) hB.size (stepB hB (growB _)) (growB _) (Nat.le_refl _)
theorem alloc_x2 (w : World) : (Instr.alloc 47 true (.tuple #[])).run Tryd.prog w = .ok (.pointer (some ⟨w.heap.size, 0, none⟩)) (w.alloc (.cells [Value.pointer none, .pointer none].toArray 47)) := by kernel_rfl
theorem info_x2 : (Tryd.prog.info? 47).map (·.size) = some 2 := by kernel_rfl
theorem one_x2 (g0 g1 : Nat) : (arX 0 g0 g1).toArray.all (·.oneCell') = true := by kernel_rfl
theorem build_x2 (g0 g1 : Nat) (w : World) : (Instr.build 47 #[(0, .pointer (some ⟨g0, 0, none⟩)), (1, .pointer (some ⟨g1, 0, none⟩))]).run Tryd.prog w = .ok (.agg (arX 0 g0 g1).toArray) w := by kernel_rfl
theorem x2_no8 : No8 [Value.pointer none, .pointer none] := No8.of_slices (by
  intro v hv x
  simp only [List.mem_cons, List.not_mem_nil, or_false] at hv
  rcases hv with rfl | rfl <;> simp)
def zs2 : List Value := [.slice none 0 0, .int .u64 0, .slice none 0 0, .int .u64 0, .int .u64 0, .int .u64 0, .slice none 0 0, .slice none 0 0, .int .u64 0, .slice none 0 0, .int .u64 0, .int .u64 0, .int .u64 0, .slice none 0 0]
theorem alloc_s2 (w : World) : (Instr.alloc 51 true (.tuple #[])).run Tryd.prog w = .ok (.pointer (some ⟨w.heap.size, 0, none⟩)) (w.alloc (.cells zs2.toArray 51)) := by kernel_rfl
theorem info_s2 : (Tryd.prog.info? 51).map (·.size) = some 14 := by kernel_rfl
theorem info_ss : (Tryd.prog.info? 50).map (·.size) = some 7 := by kernel_rfl
theorem build_c0 (a : Option Addr) (l c : Nat) (w : World) : (Instr.build 48 #[(0, .slice a l c)]).run Tryd.prog w = .ok (.agg #[.slice a l c, .int .u64 0]) w := by kernel_rfl
theorem build_c1 (a : Option Addr) (l c n : Nat) (w : World) : (Instr.build 48 #[(0, .slice a l c), (1, .int .u64 (n : Int))]).run Tryd.prog w = .ok (.agg #[.slice a l c, .int .u64 (n : Int)]) w := by kernel_rfl
theorem build_ss (a1 a2 : Option Addr) (l1 c1 l2 c2 n1 n2 st : Nat) (w : World) : (Instr.build 50 #[(0, .agg #[.slice a1 l1 c1, .int .u64 (n1 : Int)]), (1, .agg #[.slice a2 l2 c2, .int .u64 (n2 : Int)]), (2, .int .u64 (st : Int))]).run Tryd.prog w = .ok (.agg #[.slice a1 l1 c1, .int .u64 (n1 : Int), .slice a2 l2 c2, .int .u64 (n2 : Int), .int .u64 (st : Int), .int .u64 0, .slice none 0 0]) w := by kernel_rfl
theorem build_s2 (a1 a2 a3 a4 : Option Addr) (l1 c1 l2 c2 l3 c3 l4 c4 n1 n2 n3 n4 st1 st2 : Nat) (w : World) : (Instr.build 51 #[(0, .agg #[.slice a1 l1 c1, .int .u64 (n1 : Int), .slice a2 l2 c2, .int .u64 (n2 : Int), .int .u64 (st1 : Int), .int .u64 0, .slice none 0 0]), (1, .agg #[.slice a3 l3 c3, .int .u64 (n3 : Int), .slice a4 l4 c4, .int .u64 (n4 : Int), .int .u64 (st2 : Int), .int .u64 0, .slice none 0 0])]).run Tryd.prog w = .ok (.agg #[.slice a1 l1 c1, .int .u64 (n1 : Int), .slice a2 l2 c2, .int .u64 (n2 : Int), .int .u64 (st1 : Int), .int .u64 0, .slice none 0 0, .slice a3 l3 c3, .int .u64 (n3 : Int), .slice a4 l4 c4, .int .u64 (n4 : Int), .int .u64 (st2 : Int), .int .u64 0, .slice none 0 0]) w := by kernel_rfl
theorem one_s2 (a1 a2 a3 a4 : Option Addr) (l1 c1 l2 c2 l3 c3 l4 c4 n1 n2 n3 n4 st1 st2 : Nat) : ([Value.slice a1 l1 c1, .int .u64 (n1 : Int), .slice a2 l2 c2, .int .u64 (n2 : Int), .int .u64 (st1 : Int), .int .u64 0, .slice none 0 0, .slice a3 l3 c3, .int .u64 (n3 : Int), .slice a4 l4 c4, .int .u64 (n4 : Int), .int .u64 (st2 : Int), .int .u64 0, .slice none 0 0] : List Value).toArray.all (·.oneCell') = true := by kernel_rfl
theorem info_as (q : As22) (v : Value) : (Tryd.prog.info? 54).map (·.size) = some (asL q v).length := by
  show _ = some 4
  kernel_rfl
def asZ : List Value := [.int .i64 0, .slice none 0 0, .int .u64 0, .int .u64 0]
theorem alloc_as (w : World) : (Instr.alloc 54 true (.tuple #[])).run Tryd.prog w = .ok (.pointer (some ⟨w.heap.size, 0, none⟩)) (w.alloc (.cells asZ.toArray 54)) := by kernel_rfl
theorem one_as (q : As22) (a : Option Addr) (l c : Nat) : (asL q (.slice a l c)).toArray.all (·.oneCell') = true := by kernel_rfl
theorem alloc_sz (w : World) : (Instr.alloc 50 true (.tuple #[])).run Tryd.prog w = .ok (.pointer (some ⟨w.heap.size, 0, none⟩)) (w.alloc (.cells zss.toArray 50)) := by kernel_rfl
section
variable {w0 w w' : World} {gR gX gS k gk go : Nat} {r : Rl} {sp sd so : Ses} {v1 v2 v3 u1 u2 u3 vn vb : Value} {ns : List Nat} {bs : List Value} {L : Nat}
theorem PlX.cellX (h : PlX w0 gR gX gS k gk go r sp sd so v1 v2 v3 u1 u2 u3 vn vb ns bs L w) (hk : k < 2) : w.cell? ⟨gX, k, none⟩ = some (.pointer (some ⟨gk, 0, none⟩)) := by
  rw [h.arx.cell]
  rcases (by omega : k = 0 ∨ k = 1) with rfl | rfl <;> rfl
theorem PlX.cellN (h : PlX w0 gR gX gS k gk go r sp sd so v1 v2 v3 u1 u2 u3 vn vb ns bs L w) (hk : k < 2) : w.cell? ⟨gS, k * 7 + 5, none⟩ = some (.int .u64 (sd.sent : Int)) := by
  rw [h.ars.cell]
  rcases (by omega : k = 0 ∨ k = 1) with rfl | rfl <;> rfl
theorem preS_len (hk : k < 2) : (preS k so u1 u2 u3).length = k * 7 := by
  rcases (by omega : k = 0 ∨ k = 1) with rfl | rfl <;> rfl
theorem ssC_one {w : World} {s : Ses} {v1 v2 v3 : Value} (h : SsR w s v1 v2 v3) : (ssC s v1 v2 v3).toArray.all (·.oneCell') = true := by
  obtain ⟨a1, c1, rfl, -⟩ := h.snd
  obtain ⟨a2, c2, rfl, -⟩ := h.rcv
  obtain ⟨a3, c3, rfl, -⟩ := h.came
  exact one_s22 _ _ _ _ _ _ _ _ _ _ _ _ _
theorem zss_len : zss.length = 7 := rfl
theorem ssC_len (s : Ses) (v1 v2 v3 : Value) : (ssC s v1 v2 v3).length = 7 := rfl
end
theorem SsR.seal22 {w : World} {r : Rl} {s : Ses} {t : List UInt8} {now : Nat} {v1 v2 v3 : Value} (h : SsR w s v1 v2 v3) : SsR w (ssS r s t now).1 v1 v2 v3 := by
  obtain ⟨h1, h2, h3⟩ := ssS_keep r s t now
  exact ⟨by rw [h1]; exact h.snd, by rw [h2]; exact h.rcv, by rw [h3]; exact h.came⟩
theorem SsR.open22 {w : World} {r : Rl} {s : Ses} {n : Nat} {b : List UInt8} {now : Nat} {v1 v2 v3 v3' : Value} (h : SsR w s v1 v2 v3) (hc : RdI .u64 w v3' (nU (ssO r s n b now).1.came)) : SsR w (ssO r s n b now).1 v1 v2 v3' := by
  obtain ⟨h1, h2, h3⟩ := ssO_keep r s n b now
  exact ⟨by rw [h1]; exact h.snd, by rw [h2]; exact h.rcv, hc⟩
theorem nW_length (ns : List Nat) : (nW ns).length = ns.length := by simp [nW]
theorem nW_getD {ns : List Nat} {k : Nat} (h : k < ns.length) : (nW ns).getD k undef = .int .u64 ((ns.getD k 0 : Nat) : Int) := by simp [nW, h]
theorem Zr.cellp {e : TypeId} {z : Value} {base g n c : Nat} {xs : List Value} {w : World} (h : Zr e z base (.slice (some ⟨g, 0, none⟩) n c) xs w) {i : Nat} (hi : i < xs.length) : w.cell? ⟨g, i, none⟩ = some (xs.getD i undef) := by
  obtain ⟨g', c', e1, -, -, h2⟩ := h.at hi
  simp only [Value.slice.injEq, Option.some.injEq, Addr.mk.injEq, and_true] at e1
  obtain ⟨rfl, -, -⟩ := e1
  exact h2
theorem cell_onep {w : World} {e : TypeId} {v : Value} : (w.alloc (.cells #[v] e)).cell? ⟨w.heap.size, 0, none⟩ = some v := by
  unfold World.cell?
  rw [show (w.alloc (.cells #[v] e)).heap[w.heap.size]? = some (.cells #[v] e) from heap_alloc_new w _]
  rfl
theorem infoUp : ∃ i, Tryd.prog.info? 22 = some i ∧ i.zero = some (.int .u64 0) ∧ i.size = 1 ∧ i.bytes = 8 := by
  have h : (Tryd.prog.info? 22).map (fun i => (i.zero, i.size, i.bytes)) = some (some (.int .u64 0), 1, 8) := by kernel_rfl
  cases hi : Tryd.prog.info? 22 with
  | none => rw [hi] at h; cases h
  | some i =>
    rw [hi] at h
    simp only [Option.map_some, Option.some.injEq, Prod.mk.injEq] at h
    exact ⟨i, rfl, h.1, h.2.1, h.2.2⟩
theorem infoBp : ∃ i, Tryd.prog.info? 40 = some i ∧ i.zero = some (.slice none 0 0) ∧ i.size = 1 ∧ i.bytes = 24 := by
  have h : (Tryd.prog.info? 40).map (fun i => (i.zero, i.size, i.bytes)) = some (some (.slice none 0 0), 1, 24) := by kernel_rfl
  cases hi : Tryd.prog.info? 40 with
  | none => rw [hi] at h; cases h
  | some i =>
    rw [hi] at h
    simp only [Option.map_some, Option.some.injEq, Prod.mk.injEq] at h
    exact ⟨i, rfl, h.1, h.2.1, h.2.2⟩
theorem wpList_append_nump {base : Nat} {wr : World} {ops : Array Oper} {rest : List Oper} {o : Oper} {a : Act} {Q : Exit → Act → World → Prop} (hgd : o.guard = none) (s x : Operand)
    (ho : o.op = .call { callee := .builtin .append, args := #[s, x], argTypes := #[25, 25] }) (v : Value) (ns : List Nat) (hs : a.eval s = v) (hO : Zr 22 (.int .u64 0) base v (nW ns) wr) (hbase : base ≤ wr.heap.size) (hm : ns.length ≤ 1000)
    (g' c : Nat) (n : Nat) (hx : a.eval x = .slice (some ⟨g', 0, none⟩) 1 c) (hu : wr.cell? ⟨g', 0, none⟩ = some (.int .u64 (n : Int)))
    (h : ∀ v' w', Zr 22 (.int .u64 0) base v' (nW ns ++ [.int .u64 (n : Int)]) w' → Chg (fun b => some b = v.ownBlock) wr w' → K8 wr w' → (v'.ownBlock = v.ownBlock ∨ ∀ b, v'.ownBlock = some b → wr.heap.size ≤ b) → wpList Tryd.prog ops Q rest (a.put o.dst v') w') : wpList Tryd.prog ops Q (o :: rest) a wr := by
  obtain ⟨i, h1, h2, h3, h4⟩ := infoUp
  exact wpList_append_Z hgd s x 25 ho 22 i (.int .u64 0) Tryd.underlying25 h1 h2 h3 (by omega) rfl v (nW ns) hs hO hbase (by rw [nW_length]; omega) g' c _ hx hu rfl (nW_8 ns) (fun k e => by cases e) fun v' w' a1 a2 a3 a4 => h v' w' a1 a2 a3 a4
theorem wpList_append_boxp {base : Nat} {wr : World} {ops : Array Oper} {rest : List Oper} {o : Oper} {a : Act} {Q : Exit → Act → World → Prop} (hgd : o.guard = none) (s x : Operand)
    (ho : o.op = .call { callee := .builtin .append, args := #[s, x], argTypes := #[52, 52] }) (v : Value) (bs : List Value) (hs : a.eval s = v) (hO : Zr 40 (.slice none 0 0) base v bs wr) (hbase : base ≤ wr.heap.size) (hm : bs.length ≤ 1000) (h8 : ∀ y ∈ bs, ∀ k, y ≠ .int .u8 k)
    (g' c : Nat) (A : Option Addr) (L C : Nat) (hx : a.eval x = .slice (some ⟨g', 0, none⟩) 1 c) (hu : wr.cell? ⟨g', 0, none⟩ = some (.slice A L C))
    (h : ∀ v' w', Zr 40 (.slice none 0 0) base v' (bs ++ [.slice A L C]) w' → Chg (fun b => some b = v.ownBlock) wr w' → K8 wr w' → (v'.ownBlock = v.ownBlock ∨ ∀ b, v'.ownBlock = some b → wr.heap.size ≤ b) → wpList Tryd.prog ops Q rest (a.put o.dst v') w') : wpList Tryd.prog ops Q (o :: rest) a wr := by
  obtain ⟨i, h1, h2, h3, h4⟩ := infoBp
  exact wpList_append_Z hgd s x 52 ho 40 i (.slice none 0 0) Tryd.underlying52 h1 h2 h3 (by omega) rfl v bs hs hO hbase (by omega) g' c _ hx hu rfl h8 (fun k e => by cases e) fun v' w' a1 a2 a3 a4 => h v' w' a1 a2 a3 a4
/-- The two sessions as they begin. -/
def pl0 (ka kb : List UInt8) (fr st : Nat) : Ses := ⟨⟨ka, fr⟩, ⟨kb, 0⟩, st, 0, []⟩

set_option maxRecDepth 100000 in
set_option maxHeartbeats 32000000 in
theorem plays_walk (va vb : Value) (ka kb : List UInt8) (fr : Nat) (hfr : fr < 18446744073709551616) (r : Rl) (hr : RlW r) (st : Nat) (hst : st < 18446744073709551616) (vs : Value) (ks : List As22) (hks : ∀ q ∈ ks, AcW q) (w : World) (hva : Rd w va ka) (hvb : Rd w vb kb) (hs : AcS w vs ks) (hp : PlT w) (hk : KpT w) :
    Calls Tryd.prog 4 #[.agg #[va, vb], .int .u64 (fr : Int), .agg (rlC r).toArray, .int .u64 (st : Int), vs] w fun e w' => e = .returned (.bool true) ∧ Below w.heap.size w w' := by
  have HP : Hid (PlT w ∧ KpT w) := ⟨hp, hk⟩
  have HR : Hid (RlW r) := hr
  have HF : Hid (fr < 18446744073709551616 ∧ st < 18446744073709551616) := ⟨hfr, hst⟩
  have HKs : Hid (∀ q ∈ ks, AcW q) := hks
  obtain ⟨aa, ca, rfl, -⟩ := id hva
  obtain ⟨ab, cb, rfl, -⟩ := id hvb
  obtain ⟨ac, cs, rfl, -⟩ := id hs
  obtain ⟨La, hLa⟩ : ∃ n, n = ka.length := ⟨_, rfl⟩
  obtain ⟨Lb, hLb⟩ : ∃ n, n = kb.length := ⟨_, rfl⟩
  obtain ⟨N, hN⟩ : ∃ n, n = ks.length := ⟨_, rfl⟩
  have HL : Hid (La = ka.length ∧ Lb = kb.length ∧ N = ks.length) := ⟨hLa, hLb, hN⟩
  rw [← hLa] at hva ⊢
  rw [← hLb] at hvb ⊢
  rw [← hN] at hs ⊢
  have HV : Hid (Rd w (.slice aa La ca) ka ∧ Rd w (.slice ab Lb cb) kb) := ⟨hva, hvb⟩
  have HS : Hid (AcS w (.slice ac N cs) ks) := hs
  clear hp hk hr hva hvb hs hfr hst hks hLa hLb hN
  go_enter Tryd.func4, Tryd.ntmps4
  go_wp2_with (refine wpList_box_blk rfl 41 _ rfl [.slice aa La ca, .slice ab Lb cb] (by rfl) ?_)
  intro w1 r1 b1 s1
  obtain ⟨gK, hgK⟩ : ∃ n : Nat, n = w.heap.size := ⟨_, rfl⟩
  rw [← hgK] at r1 ⊢
  have H1 : Hid (BlkAt gK 41 [.slice aa La ca, .slice ab Lb cb] w1 ∧ Below w.heap.size w w1) := ⟨r1, b1⟩
  clear r1 b1 s1 hgK
  go_wp2_with (refine wpList_box_blk rfl 24 _ rfl (rlC r) (by rfl) ?_)
  intro w2 r2 b2 s2
  obtain ⟨gr, hgr⟩ : ∃ n : Nat, n = w1.heap.size := ⟨_, rfl⟩
  rw [← hgr] at r2 ⊢
  have H2 : Hid (BlkAt gK 41 [.slice aa La ca, .slice ab Lb cb] w2 ∧ Below w.heap.size w w2 ∧ BlkAt gr 24 (rlC r) w2) := ⟨H1.out.1.kept b2, stepB H1.out.2 b2, r2⟩
  clear r2 b2 s2 hgr H1
  go_wp2_with fail
  refine (awake_any w2 (HP.out.1.kept H2.out.2.1) (HP.out.2.kept H2.out.2.1)).mono ?_
  rintro e w3 ⟨rfl, b3⟩
  have H3 : Hid (BlkAt gK 41 [.slice aa La ca, .slice ab Lb cb] w3 ∧ Below w.heap.size w w3 ∧ BlkAt gr 24 (rlC r) w3) := ⟨H2.out.1.kept b3, stepB H2.out.2.1 b3, H2.out.2.2.kept b3⟩
  have ck0 : w3.cell? ⟨gK, 0, none⟩ = some (.slice aa La ca) := H3.out.1.cell 0
  have ck1 : w3.cell? ⟨gK, 1, none⟩ = some (.slice ab Lb cb) := H3.out.1.cell 1
  clear b3 H2
  by_cases h1 : 100 < La
  · have d1 : decide ((100 : Int) < (La : Int)) = true := decide_eq_true (by omega)
    have d1N : decide (100 < La) = true := decide_eq_true h1
    clear h1
    go_wp2
    go_ret
    exact ⟨rfl, H3.out.2.1⟩
  have d1 : decide ((100 : Int) < (La : Int)) = false := decide_eq_false (by omega)
  have d1N : decide (100 < La) = false := decide_eq_false h1
  by_cases h2 : 100 < Lb
  · have d2 : decide ((100 : Int) < (Lb : Int)) = true := decide_eq_true (by omega)
    have d2N : decide (100 < Lb) = true := decide_eq_true h2
    clear h1 h2
    go_wp2
    go_ret
    exact ⟨rfl, H3.out.2.1⟩
  have d2 : decide ((100 : Int) < (Lb : Int)) = false := decide_eq_false (by omega)
  have d2N : decide (100 < Lb) = false := decide_eq_false h2
  have HK : Hid (ka.length ≤ 100 ∧ kb.length ≤ 100) := (by have := HL.out; omega : ka.length ≤ 100 ∧ kb.length ≤ 100)
  clear h1 h2
  go_wp2_with (refine wpList_load_part rfl 24 _ rfl rfl [] (rlC r) [] H3.out.2.2 rfl rfl Tryd.underlying24 rfl info_rl ?_)
  refine (rules_any r _ rfl _).mono ?_
  rintro e w4 ⟨rfl, b4⟩
  have H4 : Hid (BlkAt gK 41 [.slice aa La ca, .slice ab Lb cb] w4 ∧ Below w.heap.size w w4 ∧ BlkAt gr 24 (rlC r) w4) := ⟨H3.out.1.kept b4, stepB H3.out.2.1 b4, H3.out.2.2.kept b4⟩
  clear b4 H3 ck0 ck1
  go_wp2_with (refine wpList_alloc_blk rfl 27 rfl (rlC ⟨0, 0, 0, 0, 0, 0, 0⟩) (alloc_r22 _) ?_)
  intro w5 r5 b5 s5
  obtain ⟨gR, hgR⟩ : ∃ n : Nat, n = w4.heap.size := ⟨_, rfl⟩
  rw [← hgR] at r5 ⊢
  have H5 : Hid (BlkAt gK 41 [.slice aa La ca, .slice ab Lb cb] w5 ∧ Below w.heap.size w w5 ∧ BlkAt gr 24 (rlC r) w5 ∧ BlkAt gR 27 (rlC ⟨0, 0, 0, 0, 0, 0, 0⟩) w5 ∧ w.heap.size ≤ gR) := ⟨H4.out.1.kept b5, stepB H4.out.2.1 b5, H4.out.2.2.kept b5, r5, by have := H4.out.2.1.size; omega⟩
  clear r5 b5 s5 hgR H4
  go_wp2_with (refine wpList_store_part rfl 27 _ _ rfl rfl (rlC r) rfl [] (rlC ⟨0, 0, 0, 0, 0, 0, 0⟩) [] (rlC r) H5.out.2.2.2.1 rfl rfl rfl rfl info_r22 (one_rl _) ?_)
  intro w6 r6 hw6
  have H6 : Hid (BlkAt gK 41 [.slice aa La ca, .slice ab Lb cb] w6 ∧ Below w.heap.size w w6 ∧ BlkAt gr 24 (rlC r) w6 ∧ BlkAt gR 27 (rlC r) w6) := ⟨H5.out.1.wrote hw6 (blk_ne22 H5.out.1 H5.out.2.2.2.1 (by decide)), hw6.below _ _ H5.out.2.2.2.2 H5.out.2.1, H5.out.2.2.1.wrote hw6 (blk_ne22 H5.out.2.2.1 H5.out.2.2.2.1 (by decide)), r6⟩
  clear r6 hw6 H5
  go_upto_region 7 with fail
  go_cut [13] (fun v wx => ∃ (gX g0 g1 : Nat), v = .pointer (some ⟨gX, 0, none⟩) ∧ Hid (BlkAt gX 47 (arX 0 g0 g1) wx ∧ SnP g0 r (pl0 ka kb fr st) wx ∧ SnP g1 r (pl0 kb ka 0 st) wx ∧ Below w6.heap.size w6 wx ∧ w6.heap.size ≤ g0 ∧ w6.heap.size ≤ g1 ∧ g0 ≠ g1))
  case first =>
    have hB : Below w6.heap.size w6 w6.drew := (Below.refl _ _).drew
    refine wpB_begin (Below.refl w6.heap.size w6) (by kernel_rfl) ?_
    refine bU_ hB 0 rfl ⟨_, by intro W hW; go_simp <;> with_reducible rfl, ?_⟩
    try simp only [Act.put, pA_, pB_, pC_]
    refine bU_ hB 1 rfl ⟨_, by intro W hW; have cW : W.cell? ⟨gK, 0, none⟩ = some (.slice aa La ca) := (H6.out.1.kept hW).cell 0; go_simp <;> with_reducible rfl, ?_⟩
    try simp only [Act.put, pA_, pB_, pC_]
    refine bU_ hB 2 rfl ⟨_, by intro W hW; go_simp <;> with_reducible rfl, ?_⟩
    try simp only [Act.put, pA_, pB_, pC_]
    refine bU_ hB 3 rfl ⟨_, by intro W hW; refine Eq.trans (exec_build 46 _ (by rfl) #[(0, .slice aa La ca), (1, .int .u64 (fr : Int))] (by go_simp; done) _ (build_cph _ _ _ _ _)) ?_; with_reducible rfl, ?_⟩
    try simp only [Act.put, pA_, pB_, pC_]
    refine bU_ hB 4 rfl ⟨_, by intro W hW; go_simp <;> with_reducible rfl, ?_⟩
    try simp only [Act.put, pA_, pB_, pC_]
    refine bU_ hB 5 rfl ⟨_, by intro W hW; have cW : W.cell? ⟨gK, 1, none⟩ = some (.slice ab Lb cb) := (H6.out.1.kept hW).cell 1; go_simp <;> with_reducible rfl, ?_⟩
    try simp only [Act.put, pA_, pB_, pC_]
    refine bU_ hB 6 rfl ⟨_, by intro W hW; refine Eq.trans (exec_build 46 _ (by rfl) #[(0, .slice ab Lb cb)] (by go_simp; done) _ (build_cp0 _ _ _ _)) ?_; with_reducible rfl, ?_⟩
    try simp only [Act.put, pA_, pB_, pC_]
    refine bU_ hB 7 rfl ⟨_, by intro W hW; refine Eq.trans (exec_load_part 24 _ (by rfl) (by rfl) [] (rlC r) [] H6.out.2.2.1 hW (by rfl) rfl Tryd.underlying24 rfl info_rl) ?_; with_reducible rfl, ?_⟩
    try simp only [Act.put, pA_, pB_, pC_]
    refine bU_ hB 8 rfl ⟨_, by intro W hW; go_simp <;> with_reducible rfl, ?_⟩
    try simp only [Act.put, pA_, pB_, pC_]
    refine bU_ hB 10 rfl ⟨_, by intro W hW; go_simp <;> with_reducible rfl, ?_⟩
    try simp only [Act.put, pA_, pB_, pC_]
    refine bU_ hB 11 rfl ⟨_, by intro W hW; have cW : W.cell? ⟨gK, 1, none⟩ = some (.slice ab Lb cb) := (H6.out.1.kept hW).cell 1; go_simp <;> with_reducible rfl, ?_⟩
    try simp only [Act.put, pA_, pB_, pC_]
    refine bU_ hB 12 rfl ⟨_, by intro W hW; refine Eq.trans (exec_build 46 _ (by rfl) #[(0, .slice ab Lb cb)] (by go_simp; done) _ (build_cp0 _ _ _ _)) ?_; with_reducible rfl, ?_⟩
    try simp only [Act.put, pA_, pB_, pC_]
    refine bU_ hB 13 rfl ⟨_, by intro W hW; go_simp <;> with_reducible rfl, ?_⟩
    try simp only [Act.put, pA_, pB_, pC_]
    refine bU_ hB 14 rfl ⟨_, by intro W hW; have cW : W.cell? ⟨gK, 0, none⟩ = some (.slice aa La ca) := (H6.out.1.kept hW).cell 0; go_simp <;> with_reducible rfl, ?_⟩
    try simp only [Act.put, pA_, pB_, pC_]
    refine bU_ hB 15 rfl ⟨_, by intro W hW; refine Eq.trans (exec_build 46 _ (by rfl) #[(0, .slice aa La ca)] (by go_simp; done) _ (build_cp0 _ _ _ _)) ?_; with_reducible rfl, ?_⟩
    try simp only [Act.put, pA_, pB_, pC_]
    refine bU_ hB 16 rfl ⟨_, by intro W hW; refine Eq.trans (exec_load_part 24 _ (by rfl) (by rfl) [] (rlC r) [] H6.out.2.2.1 hW (by rfl) rfl Tryd.underlying24 rfl info_rl) ?_; with_reducible rfl, ?_⟩
    try simp only [Act.put, pA_, pB_, pC_]
    refine bU_ hB 17 rfl ⟨_, by intro W hW; go_simp <;> with_reducible rfl, ?_⟩
    try simp only [Act.put, pA_, pB_, pC_]
    refine bF_ 9 20 (fun K hK => ?_) (fun K hK => ?_)
    · go_simp
      refine (cnew_any r (.slice aa La ca) (.slice ab Lb cb) ka kb fr 0 st (by have := HK.out; omega) (by have := HK.out; omega) HF.out.1 (by decide) HF.out.2 _ _ _ rfl rfl rfl _ ((HV.out.1.kept H6.out.2.1).kept hB) ((HV.out.2.kept H6.out.2.1).kept hB)).mono ?_
      rintro e wa ⟨g0, rfl, hg0, hS0, ba⟩
      have HG0 : Hid (w6.heap.size ≤ g0) := Nat.le_trans hB.size hg0
      replace hB := stepB hB ba
      try replace hM := BlkAt.kept hM ba
      refine hK.out _ _ hB ?_
      clear hK K
      try simp only [Act.put, pA_, pB_, pC_]
      refine bF_ 18 20 (fun K hK => ?_) (fun K hK => ?_)
      · go_simp
        refine (cnew_any r (.slice ab Lb cb) (.slice aa La ca) kb ka 0 0 st (by have := HK.out; omega) (by have := HK.out; omega) (by decide) (by decide) HF.out.2 _ _ _ rfl rfl rfl _ ((HV.out.2.kept H6.out.2.1).kept hB) ((HV.out.1.kept H6.out.2.1).kept hB)).mono ?_
        rintro e wb ⟨g1, rfl, hg1, hS1, bb⟩
        have HG1 : Hid (w6.heap.size ≤ g1 ∧ g0 ≠ g1) := ⟨Nat.le_trans hB.size hg1, by have := hS0.lt; omega⟩
        replace hB := stepB hB bb
        replace hS0 := hS0.kept bb
        try replace hM := BlkAt.kept hM bb
        refine hK.out _ _ hB ?_
        clear hK K
        try simp only [Act.put, pA_, pB_, pC_]
        refine bU_ hB 19 rfl ⟨_, by intro W hW; refine Eq.trans (exec_build 47 _ (by rfl) #[(0, .pointer (some ⟨g0, 0, none⟩)), (1, .pointer (some ⟨g1, 0, none⟩))] (by go_simp; done) _ (build_x2 _ _ _)) ?_; with_reducible rfl, ?_⟩
        try simp only [Act.put, pA_, pB_, pC_]
        refine bD_ 20 fun K hK => ?_
        refine wp_alloc_p22 hB 47 rfl [.pointer none, .pointer none] (alloc_x2 _) ?_
        intro gX wN hM hge hBA hBc hge2
        replace hB := hBA
        try replace hS0 := SnP.kept hS0 hBc
        try replace hS1 := SnP.kept hS1 hBc
        refine hK.out _ _ hB ?_
        clear hK K
        try simp only [Act.put, pA_, pB_, pC_]
        refine bD_ 21 fun K hK => ?_
        refine wp_store_part 47 _ _ rfl rfl (arX 0 g0 g1) rfl [] [.pointer none, .pointer none] [] (arX 0 g0 g1) hM rfl rfl rfl rfl info_x2 (one_x2 _ _) ?_
        intro wS hMS hwS
        replace hB := hwS.below _ _ hge hB
        obtain ⟨c0, hc0, -⟩ := hS0.blk
        obtain ⟨c1, hc1, -⟩ := hS1.blk
        replace hS0 := hS0.other (Chg.of_wrote hwS) (blk_ne22 hc0 hM (by decide)) (K8.blk hM x2_no8 (Chg.of_wrote hwS))
        replace hS1 := hS1.other (Chg.of_wrote hwS) (blk_ne22 hc1 hM (by decide)) (K8.blk hM x2_no8 (Chg.of_wrote hwS))
        refine hK.out _ _ hB ?_
        clear hK K
        try simp only [Act.put, pA_, pB_, pC_]
        refine wpB_done (by kernel_rfl) ?_
        have HE : Hid (BlkAt gX 47 (arX 0 g0 g1) wS ∧ SnP g0 r (pl0 ka kb fr st) wS ∧ SnP g1 r (pl0 kb ka 0 st) wS ∧ Below w6.heap.size w6 wS ∧ w6.heap.size ≤ g0 ∧ w6.heap.size ≤ g1 ∧ g0 ≠ g1) := ⟨hMS, hS0, hS1, hB, HG0.out, HG1.out.1, HG1.out.2⟩
        clear hMS hS0 hS1 hB hM hwS hc0 hc1
        go_wp2_with fail
        go_meet
        exact ⟨gX, g0, g1, rfl, HE⟩
      · refine wp_alloc_p22 hB 47 rfl [.pointer none, .pointer none] (alloc_x2 _) ?_
        intro gX wN hM hge hBA hBc hge2
        replace hB := hBA
        try replace hS0 := SnP.kept hS0 hBc
        try replace hS1 := SnP.kept hS1 hBc
        refine hK.out _ _ hB ?_
        clear hK K
        try simp only [Act.put, pA_, pB_, pC_]
        refine bD_ 18 fun K hK => ?_
        go_simp
        refine (cnew_any r (.slice ab Lb cb) (.slice aa La ca) kb ka 0 0 st (by have := HK.out; omega) (by have := HK.out; omega) (by decide) (by decide) HF.out.2 _ _ _ rfl rfl rfl _ ((HV.out.2.kept H6.out.2.1).kept hB) ((HV.out.1.kept H6.out.2.1).kept hB)).mono ?_
        rintro e wb ⟨g1, rfl, hg1, hS1, bb⟩
        have HG1 : Hid (w6.heap.size ≤ g1 ∧ g0 ≠ g1) := ⟨Nat.le_trans hB.size hg1, by have := hS0.lt; omega⟩
        replace hB := stepB hB bb
        replace hS0 := hS0.kept bb
        try replace hM := BlkAt.kept hM bb
        refine hK.out _ _ hB ?_
        clear hK K
        try simp only [Act.put, pA_, pB_, pC_]
        refine bU_ hB 19 rfl ⟨_, by intro W hW; refine Eq.trans (exec_build 47 _ (by rfl) #[(0, .pointer (some ⟨g0, 0, none⟩)), (1, .pointer (some ⟨g1, 0, none⟩))] (by go_simp; done) _ (build_x2 _ _ _)) ?_; with_reducible rfl, ?_⟩
        try simp only [Act.put, pA_, pB_, pC_]
        refine bD_ 21 fun K hK => ?_
        refine wp_store_part 47 _ _ rfl rfl (arX 0 g0 g1) rfl [] [.pointer none, .pointer none] [] (arX 0 g0 g1) hM rfl rfl rfl rfl info_x2 (one_x2 _ _) ?_
        intro wS hMS hwS
        replace hB := hwS.below _ _ hge hB
        obtain ⟨c0, hc0, -⟩ := hS0.blk
        obtain ⟨c1, hc1, -⟩ := hS1.blk
        replace hS0 := hS0.other (Chg.of_wrote hwS) (blk_ne22 hc0 hM (by decide)) (K8.blk hM x2_no8 (Chg.of_wrote hwS))
        replace hS1 := hS1.other (Chg.of_wrote hwS) (blk_ne22 hc1 hM (by decide)) (K8.blk hM x2_no8 (Chg.of_wrote hwS))
        refine hK.out _ _ hB ?_
        clear hK K
        try simp only [Act.put, pA_, pB_, pC_]
        refine wpB_done (by kernel_rfl) ?_
        have HE : Hid (BlkAt gX 47 (arX 0 g0 g1) wS ∧ SnP g0 r (pl0 ka kb fr st) wS ∧ SnP g1 r (pl0 kb ka 0 st) wS ∧ Below w6.heap.size w6 wS ∧ w6.heap.size ≤ g0 ∧ w6.heap.size ≤ g1 ∧ g0 ≠ g1) := ⟨hMS, hS0, hS1, hB, HG0.out, HG1.out.1, HG1.out.2⟩
        clear hMS hS0 hS1 hB hM hwS hc0 hc1
        go_wp2_with fail
        go_meet
        exact ⟨gX, g0, g1, rfl, HE⟩
    · refine wp_alloc_p22 hB 47 rfl [.pointer none, .pointer none] (alloc_x2 _) ?_
      intro gX wN hM hge hBA hBc hge2
      replace hB := hBA
      try replace hS0 := SnP.kept hS0 hBc
      try replace hS1 := SnP.kept hS1 hBc
      refine hK.out _ _ hB ?_
      clear hK K
      try simp only [Act.put, pA_, pB_, pC_]
      refine bD_ 9 fun K hK => ?_
      go_simp
      refine (cnew_any r (.slice aa La ca) (.slice ab Lb cb) ka kb fr 0 st (by have := HK.out; omega) (by have := HK.out; omega) HF.out.1 (by decide) HF.out.2 _ _ _ rfl rfl rfl _ ((HV.out.1.kept H6.out.2.1).kept hB) ((HV.out.2.kept H6.out.2.1).kept hB)).mono ?_
      rintro e wa ⟨g0, rfl, hg0, hS0, ba⟩
      have HG0 : Hid (w6.heap.size ≤ g0) := Nat.le_trans hB.size hg0
      replace hB := stepB hB ba
      try replace hM := BlkAt.kept hM ba
      refine hK.out _ _ hB ?_
      clear hK K
      try simp only [Act.put, pA_, pB_, pC_]
      refine bD_ 18 fun K hK => ?_
      go_simp
      refine (cnew_any r (.slice ab Lb cb) (.slice aa La ca) kb ka 0 0 st (by have := HK.out; omega) (by have := HK.out; omega) (by decide) (by decide) HF.out.2 _ _ _ rfl rfl rfl _ ((HV.out.2.kept H6.out.2.1).kept hB) ((HV.out.1.kept H6.out.2.1).kept hB)).mono ?_
      rintro e wb ⟨g1, rfl, hg1, hS1, bb⟩
      have HG1 : Hid (w6.heap.size ≤ g1 ∧ g0 ≠ g1) := ⟨Nat.le_trans hB.size hg1, by have := hS0.lt; omega⟩
      replace hB := stepB hB bb
      replace hS0 := hS0.kept bb
      try replace hM := BlkAt.kept hM bb
      refine hK.out _ _ hB ?_
      clear hK K
      try simp only [Act.put, pA_, pB_, pC_]
      refine bU_ hB 19 rfl ⟨_, by intro W hW; refine Eq.trans (exec_build 47 _ (by rfl) #[(0, .pointer (some ⟨g0, 0, none⟩)), (1, .pointer (some ⟨g1, 0, none⟩))] (by go_simp; done) _ (build_x2 _ _ _)) ?_; with_reducible rfl, ?_⟩
      try simp only [Act.put, pA_, pB_, pC_]
      refine bD_ 21 fun K hK => ?_
      refine wp_store_part 47 _ _ rfl rfl (arX 0 g0 g1) rfl [] [.pointer none, .pointer none] [] (arX 0 g0 g1) hM rfl rfl rfl rfl info_x2 (one_x2 _ _) ?_
      intro wS hMS hwS
      replace hB := hwS.below _ _ hge hB
      obtain ⟨c0, hc0, -⟩ := hS0.blk
      obtain ⟨c1, hc1, -⟩ := hS1.blk
      replace hS0 := hS0.other (Chg.of_wrote hwS) (blk_ne22 hc0 hM (by decide)) (K8.blk hM x2_no8 (Chg.of_wrote hwS))
      replace hS1 := hS1.other (Chg.of_wrote hwS) (blk_ne22 hc1 hM (by decide)) (K8.blk hM x2_no8 (Chg.of_wrote hwS))
      refine hK.out _ _ hB ?_
      clear hK K
      try simp only [Act.put, pA_, pB_, pC_]
      refine wpB_done (by kernel_rfl) ?_
      have HE : Hid (BlkAt gX 47 (arX 0 g0 g1) wS ∧ SnP g0 r (pl0 ka kb fr st) wS ∧ SnP g1 r (pl0 kb ka 0 st) wS ∧ Below w6.heap.size w6 wS ∧ w6.heap.size ≤ g0 ∧ w6.heap.size ≤ g1 ∧ g0 ≠ g1) := ⟨hMS, hS0, hS1, hB, HG0.out, HG1.out.1, HG1.out.2⟩
      clear hMS hS0 hS1 hB hM hwS hc0 hc1
      go_wp2_with fail
      go_meet
      exact ⟨gX, g0, g1, rfl, HE⟩
  case rest =>
  obtain ⟨gX, g0, g1, rfl, HX⟩ := hcut
  rename World => w7
  have H7 : Hid (BlkAt gK 41 [.slice aa La ca, .slice ab Lb cb] w7 ∧ Below w.heap.size w w7 ∧ BlkAt gR 27 (rlC r) w7) := ⟨H6.out.1.kept HX.out.2.2.2.1, stepB H6.out.2.1 HX.out.2.2.2.1, H6.out.2.2.2.kept HX.out.2.2.2.1⟩
  have ck0 : w7.cell? ⟨gK, 0, none⟩ = some (.slice aa La ca) := H7.out.1.cell 0
  have ck1 : w7.cell? ⟨gK, 1, none⟩ = some (.slice ab Lb cb) := H7.out.1.cell 1
  have HG : Hid (w.heap.size ≤ g0 ∧ w.heap.size ≤ g1) := ⟨Nat.le_trans H6.out.2.1.size HX.out.2.2.2.2.1, Nat.le_trans H6.out.2.1.size HX.out.2.2.2.2.2.1⟩
  clear H6
  obtain ⟨w9, hw9⟩ : ∃ w9, w9 = w7.alloc (.cells #[.slice aa La ca, .int .u64 (fr : Int), .slice ab Lb cb, .int .u64 0, .int .u64 (st : Int), .int .u64 0, .slice none 0 0, .slice ab Lb cb, .int .u64 0, .slice aa La ca, .int .u64 0, .int .u64 (st : Int), .int .u64 0, .slice none 0 0] 51) := ⟨_, rfl⟩
  have hb9 : Below w7.heap.size w7 w9 := by rw [hw9]; exact growB _
  have r9 : BlkAt w7.heap.size 51 (arS 0 (pl0 ka kb fr st) (pl0 kb ka 0 st) (.slice aa La ca) (.slice ab Lb cb) (.slice none 0 0) (.slice ab Lb cb) (.slice aa La ca) (.slice none 0 0)) w9 := by rw [hw9]; exact heap_alloc_new w7 _
  have hb9w : Below w.heap.size w w9 := stepB H7.out.2.1 hb9
  have HI9 : Hid (PlX w gR gX w7.heap.size 0 g0 g1 r (pl0 ka kb fr st) (pl0 ka kb fr st) (pl0 kb ka 0 st) (.slice aa La ca) (.slice ab Lb cb) (.slice none 0 0) (.slice ab Lb cb) (.slice aa La ca) (.slice none 0 0) (.slice none 0 0) (.slice none 0 0) [] [] 0 w9) :=
    ⟨H7.out.2.2.kept hb9, HX.out.1.kept hb9, r9, HX.out.2.1.kept hb9, HX.out.2.2.1.kept hb9, ⟨HV.out.1.kept hb9w, HV.out.2.kept hb9w, RdI.nil _ _⟩, ⟨HV.out.2.kept hb9w, HV.out.1.kept hb9w, RdI.nil _ _⟩, Zr.nil _ _ _ _, Zr.nil _ _ _ _, (fun n hn => by cases hn), (fun j hj => absurd hj (Nat.not_lt_zero _)), (fun y hy => by cases hy), ⟨fun b hb => by cases hb⟩, ⟨fun b hb => by cases hb⟩, HX.out.2.1.ok, ⟨Nat.le_refl _, Nat.le_refl _⟩, hb9w, HX.out.2.2.2.2.2.2, H7.out.2.1.size, HG.out.1, HG.out.2⟩
  clear r9 hb9 hb9w H7 HX
  go_wp2_with fail
  rw [← hw9]
  generalize w7.heap.size = gS at HI9 ⊢
  clear hw9 ck0 ck1
  go_wp2
  go_loopw [17, 15, 16] (fun iv nv bv wr => ∃ (i : Nat) (s0 s1 : Ses) (v1 v2 v3 u1 u2 u3 : Value) (ns : List Nat) (bs : List Value), i ≤ 20 ∧ iv = .int .i64 (i : Int) ∧ Hid (PlX w gR gX gS 0 g0 g1 r s0 s0 s1 v1 v2 v3 u1 u2 u3 nv bv ns bs i wr ∧ bs.length = ns.length ∧ ns.length ≤ i)) (fun iv _ _ _ => 20 - (intOf iv).toNat)
  case atStart => exact ⟨0, _, _, _, _, _, _, _, _, [], [], by omega, rfl, HI9.out, rfl, Nat.le_refl _⟩
  case round =>
    obtain ⟨i, s0, s1, v1, v2, v3, u1, u2, u3, ns, bs, hi, rfl, HI⟩ := hrel
    clear HI9
    by_cases hgo : i < N ∧ i < 20
    rotate_left
    · have hway : (decide ((i : Int) < (N : Int)) = true ∧ decide (i < N) = true ∧ decide ((i : Int) < 20) = false ∧ decide (i < 20) = false) ∨ (decide ((i : Int) < (N : Int)) = false ∧ decide (i < N) = false) := by
        by_cases h : i < N
        · have h2 : ¬ i < 20 := fun h3 => hgo ⟨h, h3⟩
          exact .inl ⟨decide_eq_true (by omega), decide_eq_true h, decide_eq_false (by omega), decide_eq_false h2⟩
        · exact .inr ⟨decide_eq_false (by omega), decide_eq_false h⟩
      have HIe : Hid (Below w.heap.size w wr) := HI.out.1.below
      clear hgo HI hi
      rcases hway with ⟨q1, q2, q3, q4⟩ | ⟨q1, q2⟩
      all_goals
        go_wp2
        go_ret
        exact ⟨rfl, HIe.out⟩
    obtain ⟨hlt, h20⟩ := hgo
    have d3 : decide ((i : Int) < (N : Int)) = true := decide_eq_true (by omega)
    have d3N : decide (i < N) = true := decide_eq_true hlt
    have d4 : decide ((i : Int) < 20) = true := decide_eq_true (by omega)
    have d4N : decide (i < 20) = true := decide_eq_true h20
    have hiN : (i : Int) < (N : Int) := by omega
    have ei : IntKind.i64.wrap ((i : Int) + 1) = ((i + 1 : Nat) : Int) := by rw [IntWalk.i64_in _ (by omega)]; omega
    have HI1 : Hid (i + 1 ≤ 20) := h20
    obtain ⟨bo, oo, vq, hac, hall⟩ := HS.out.at (k := i) (by rw [← HL.out.2.2]; exact hlt)
    subst hac
    have hqW := HKs.out _ (List.getElem_mem (show i < ks.length by rw [← HL.out.2.2]; exact hlt))
    generalize ks[i]'(by rw [← HL.out.2.2]; exact hlt) = q at hall hqW
    obtain ⟨aq, cq, rfl, -⟩ := id (hall wr HI.out.1.below).2
    obtain ⟨Lq, hLq⟩ : ∃ n, n = q.b.length := ⟨_, rfl⟩
    rw [← hLq] at hall
    have HQ : Hid (Lq = q.b.length ∧ q.n < 18446744073709551616 ∧ q.now < 18446744073709551616) := ⟨hLq, hqW.n, hqW.now⟩
    have HAll : Hid (∀ W, Below w.heap.size w W → W.rangeAt bo (oo + i * 4) (asL q (.slice aq Lq cq)) ∧ Rd W (.slice aq Lq cq) q.b) := hall
    have HRg : Hid (wr.rangeAt bo (oo + i * 4) (asL q (.slice aq Lq cq))) := (hall wr HI.out.1.below).1
    clear hall hqW hLq hlt h20 hi
    go_wp2_with (first | refine wpList_load_mid rfl 54 _ rfl bo (oo + i * 4) rfl (asL q (.slice aq Lq cq)) _ HRg.out Tryd.underlying54 rfl (info_as _ _) ?_ | refine wpList_alloc_blk rfl 54 rfl asZ (alloc_as _) ?_)
    intro w10 r10 b10 s10
    obtain ⟨ga, hga⟩ : ∃ n : Nat, n = wr.heap.size := ⟨_, rfl⟩
    rw [← hga] at r10 ⊢
    have H10 : Hid (BlkAt ga 54 asZ w10 ∧ Below wr.heap.size wr w10 ∧ wr.heap.size ≤ ga) := ⟨r10, b10, by omega⟩
    clear r10 b10 s10 hga HRg
    go_wp2_with (refine wpList_store_part rfl 54 _ _ rfl rfl (asL q (.slice aq Lq cq)) rfl [] asZ [] (asL q (.slice aq Lq cq)) H10.out.1 rfl rfl rfl rfl (info_as q undef) (one_as _ _ _ _) ?_)
    intro w11 r11 hw11
    have hb11 := hw11.below _ _ H10.out.2.2 H10.out.2.1
    have HJ : Hid (PlX w gR gX gS 0 g0 g1 r s0 s0 s1 v1 v2 v3 u1 u2 u3 _ _ ns bs i w11 ∧ BlkAt ga 54 (asL q (.slice aq Lq cq)) w11 ∧ bs.length = ns.length ∧ ns.length ≤ i) := ⟨HI.out.1.kept hb11, r11, HI.out.2.1, HI.out.2.2⟩
    have c0 : w11.cell? ⟨ga, 0, none⟩ = some (.int .i64 q.kind) := r11.cell 0
    have c1 : w11.cell? ⟨ga, 1, none⟩ = some (.slice aq Lq cq) := r11.cell 1
    clear r11 hw11 hb11 H10 HI
    by_cases h300 : 300 < Lq
    · have d5 : decide ((300 : Int) < (Lq : Int)) = true := decide_eq_true (by omega)
      have d5N : decide (300 < Lq) = true := decide_eq_true h300
      have HIe : Hid (Below w.heap.size w w11) := HJ.out.1.below
      clear h300 HJ
      go_wp2
      go_ret
      exact ⟨rfl, HIe.out⟩
    have d5 : decide ((300 : Int) < (Lq : Int)) = false := decide_eq_false (by omega)
    have d5N : decide (300 < Lq) = false := decide_eq_false h300
    have HLq : Hid (Lq ≤ 300) := (by omega : Lq ≤ 300)
    obtain ⟨kd, hkd⟩ : ∃ x, x = q.kind := ⟨_, rfl⟩
    have HKd : Hid (kd = q.kind) := hkd
    rw [← hkd] at c0
    obtain ⟨X, hX1, hand1⟩ := and_small kd 1 (by decide)
    obtain ⟨Y, hY1, hand2⟩ := and_small kd 2 (by decide)
    obtain ⟨Z, hZ1, hand4⟩ := and_small kd 4 (by decide)
    have hand1' : bits .and .i64 kd 1 = (X : Int) := hand1
    have hand2' : bits .and .i64 kd 2 = (Y : Int) := hand2
    have hand4' : bits .and .i64 kd 4 = (Z : Int) := hand4
    have hX2 : X < 2 := by omega
    have hX2I : (X : Int) < 2 := by omega
    clear h300 hkd hand1 hand2 hand4 hX1
    obtain ⟨gk, go, sp, so, a1, a2, a3, b1, b2, b3, hJX, hback⟩ : ∃ (gk go : Nat) (sp so : Ses) (a1 a2 a3 b1 b2 b3 : Value), PlX w gR gX gS X gk go r sp sp so a1 a2 a3 b1 b2 b3 _ _ ns bs i w11 ∧ (∀ (sp' : Ses) (a3' nv' bv' : Value) (ns' : List Nat) (bs' : List Value) (L' : Nat) (W : World), PlX w gR gX gS X gk go r sp' sp' so a1 a2 a3' b1 b2 b3 nv' bv' ns' bs' L' W → ∃ (s0' s1' : Ses) (e1 e2 e3 f1 f2 f3 : Value), PlX w gR gX gS 0 g0 g1 r s0' s0' s1' e1 e2 e3 f1 f2 f3 nv' bv' ns' bs' L' W) := by
      rcases (by omega : X = 0 ∨ X = 1) with rfl | rfl
      · exact ⟨_, _, _, _, _, _, _, _, _, _, HJ.out.1, fun sp' a3' nv' bv' ns' bs' L' W h => ⟨_, _, _, _, _, _, _, _, h⟩⟩
      · exact ⟨_, _, _, _, _, _, _, _, _, _, HJ.out.1.swap, fun sp' a3' nv' bv' ns' bs' L' W h => ⟨_, _, _, _, _, _, _, _, h.back⟩⟩
    have HBk : Hid (∀ (sp' : Ses) (a3' nv' bv' : Value) (ns' : List Nat) (bs' : List Value) (L' : Nat) (W : World), PlX w gR gX gS X gk go r sp' sp' so a1 a2 a3' b1 b2 b3 nv' bv' ns' bs' L' W → ∃ (s0' s1' : Ses) (e1 e2 e3 f1 f2 f3 : Value), PlX w gR gX gS 0 g0 g1 r s0' s0' s1' e1 e2 e3 f1 f2 f3 nv' bv' ns' bs' L' W) := hback
    -- THE ROUND
    have HJX : Hid (PlX w gR gX gS X gk go r sp sp so a1 a2 a3 b1 b2 b3 u15 u16 ns bs i w11 ∧ BlkAt ga 54 (asL q (.slice aq Lq cq)) w11 ∧ bs.length = ns.length ∧ ns.length ≤ i) := ⟨hJX, HJ.out.2⟩
    clear hJX hback HJ c0 c1
    obtain ⟨nw, hnw⟩ : ∃ n, n = q.now := ⟨_, rfl⟩
    obtain ⟨qn, hqn⟩ : ∃ n, n = q.n := ⟨_, rfl⟩
    have HNw : Hid (nw < 18446744073709551616 ∧ qn < 18446744073709551616) := ⟨by rw [hnw]; exact HQ.out.2.2, by rw [hqn]; exact HQ.out.2.1⟩
    have HAc : Hid (∀ W, BlkAt ga 54 (asL q (.slice aq Lq cq)) W → W.cell? ⟨ga, 0, none⟩ = some (.int .i64 kd) ∧ W.cell? ⟨ga, 1, none⟩ = some (.slice aq Lq cq) ∧ W.cell? ⟨ga, 2, none⟩ = some (.int .u64 (qn : Int)) ∧ W.cell? ⟨ga, 3, none⟩ = some (.int .u64 (nw : Int))) := fun W hB => ⟨by rw [HKd.out]; exact hB.cell 0, hB.cell 1, by rw [hqn]; exact hB.cell 2, by rw [hnw]; exact hB.cell 3⟩
    have HRq : Hid (∀ W, Below w.heap.size w W → Rd W (.slice aq Lq cq) q.b) := fun W hW => (HAll.out W hW).2
    have HQl : Hid (q.b.length ≤ 300) := (by rw [← HQ.out.1]; exact HLq.out : q.b.length ≤ 300)
    clear hnw hqn HAll
    obtain ⟨c0, c1, c2, c3⟩ := HAc.out w11 HJX.out.2.1
    go_upto_if 112 with fail
    go_cut [15, 16] (fun x y wx => ∃ (sp' : Ses) (a3' : Value) (ns' : List Nat) (bs' : List Value), Hid (PlX w gR gX gS X gk go r sp' sp' so a1 a2 a3' b1 b2 b3 x y ns' bs' (i + 1) wx ∧ BlkAt ga 54 (asL q (.slice aq Lq cq)) wx ∧ bs'.length = ns'.length ∧ ns'.length ≤ i + 1))
    case first =>
      by_cases hY : Y = 0
      · have dY : ((Y : Int) == 0) = true := by simp [hY]
        clear hY hY1
        as_aux_lemma =>
          obtain ⟨G, hG⟩ : ∃ G, G = ssS r sp q.b nw := ⟨_, rfl⟩
          have HSk : Hid (∀ W, SsR W sp a1 a2 a3 → SsR W G.1 a1 a2 a3) := fun W h => by rw [hG]; exact h.seal22
          have HGl : Hid (G.2.2.1.length ≤ 3000000 ∧ G.2.1 < 18446744073709551616 ∧ G.1.came.length ≤ i + 1 ∧ SesW G.1) := by
            show _ ∧ _
            rw [hG]
            refine ⟨by have := ssS_len r sp q.b nw; have := HQl.out; omega, ssS_n HJX.out.1.dok, ?_, ssS_ok HR.out HJX.out.1.dok⟩
            rw [(ssS_keep r sp q.b nw).2.2]
            have := HJX.out.1.lim.1
            omega
          have HG : Hid (ssS r sp q.b nw = G) := hG.symm
          clear hG
          obtain ⟨sp', n', bx, er⟩ := G
          go_wp2_with fail
          have hdr : Below w11.heap.size w11 w11.drew := (Below.refl _ w11).drew
          have HD : Hid (PlX w gR gX gS X gk go r sp sp so a1 a2 a3 b1 b2 b3 u15 u16 ns bs i w11.drew ∧ BlkAt ga 54 (asL q (.slice aq Lq cq)) w11.drew) := ⟨HJX.out.1.kept hdr, HJX.out.2.1.kept hdr⟩
          have hS : w11.drew.cell? ⟨gX, X, none⟩ = some (.pointer (some ⟨gk, 0, none⟩)) ∧ w11.drew.cell? ⟨ga, 1, none⟩ = some (.slice aq Lq cq) ∧ w11.drew.cell? ⟨ga, 3, none⟩ = some (.int .u64 (nw : Int)) := ⟨HD.out.1.cellX hX2, (HAc.out _ HD.out.2).2.1, (HAc.out _ HD.out.2).2.2.2⟩
          clear hdr
          refine wpS_begin (fun W => W.cell? ⟨gX, X, none⟩ = some (.pointer (some ⟨gk, 0, none⟩)) ∧ W.cell? ⟨ga, 1, none⟩ = some (.slice aq Lq cq) ∧ W.cell? ⟨ga, 3, none⟩ = some (.int .u64 (nw : Int))) (by kernel_rfl) ?_
          refine sU_ hS 0 rfl ⟨_, by intro W hW; go_simp <;> with_reducible rfl, ?_⟩
          try simp only [Act.put, pA_, pB_, pC_]
          refine sU_ hS 1 rfl ⟨_, by intro W hW; go_simp <;> with_reducible rfl, ?_⟩
          try simp only [Act.put, pA_, pB_, pC_]
          refine sU_ hS 2 rfl ⟨_, by intro W hW; have cW := hW.1; go_simp <;> with_reducible rfl, ?_⟩
          try simp only [Act.put, pA_, pB_, pC_]
          refine sU_ hS 3 rfl ⟨_, by intro W hW; go_simp <;> with_reducible rfl, ?_⟩
          try simp only [Act.put, pA_, pB_, pC_]
          refine sU_ hS 4 rfl ⟨_, by intro W hW; have cW := hW.2.1; go_simp <;> with_reducible rfl, ?_⟩
          try simp only [Act.put, pA_, pB_, pC_]
          refine sU_ hS 5 rfl ⟨_, by intro W hW; go_simp <;> with_reducible rfl, ?_⟩
          try simp only [Act.put, pA_, pB_, pC_]
          refine sU_ hS 6 rfl ⟨_, by intro W hW; have cW := hW.2.2; go_simp <;> with_reducible rfl, ?_⟩
          try simp only [Act.put, pA_, pB_, pC_]
          refine sD_ 7 fun K hK => ?_
          go_simp
          refine (zseal_any gk r HR.out sp _ q.b (by have := HQl.out; omega) nw HNw.out.1 _ HD.out.1.mine (HRq.out _ HD.out.1.below) (HP.out.1.kept HD.out.1.below) (HP.out.2.kept HD.out.1.below)).mono ?_
          rw [HG.out]
          rintro e w12 ⟨x, rfl, hOx, hSx, hCx⟩
          obtain ⟨cm, hcm, -⟩ := HD.out.1.mine.blk
          have HJ12 : Hid (PlX w gR gX gS X gk go r sp' sp so a1 a2 a3 b1 b2 b3 u15 u16 ns bs i w12 ∧ BlkAt ga 54 (asL q (.slice aq Lq cq)) w12 ∧ Rd w12 x bx) := ⟨HD.out.1.prog hCx hSx, HD.out.2.chg hCx (blk_ne22 HD.out.2 hcm (by decide)), hOx.rd⟩
          obtain ⟨ax, kx, rfl, -⟩ := id hOx.rd
          have hS : w12.cell? ⟨gX, X, none⟩ = some (.pointer (some ⟨gk, 0, none⟩)) ∧ w12.cell? ⟨ga, 1, none⟩ = some (.slice aq Lq cq) ∧ w12.cell? ⟨ga, 3, none⟩ = some (.int .u64 (nw : Int)) := ⟨HJ12.out.1.cellX hX2, (HAc.out _ HJ12.out.2.1).2.1, (HAc.out _ HJ12.out.2.1).2.2.2⟩
          clear hOx hSx hCx hcm
          refine hK.out _ _ hS ?_
          clear hK K
          try simp only [Act.put, pA_, pB_, pC_]
          refine sU_ hS 8 rfl ⟨_, by intro W hW; go_simp <;> with_reducible rfl, ?_⟩
          try simp only [Act.put, pA_, pB_, pC_]
          refine sU_ hS 9 rfl ⟨_, by intro W hW; go_simp <;> with_reducible rfl, ?_⟩
          try simp only [Act.put, pA_, pB_, pC_]
          refine sU_ hS 10 rfl ⟨_, by intro W hW; go_simp <;> with_reducible rfl, ?_⟩
          try simp only [Act.put, pA_, pB_, pC_]
          refine sU_ hS 11 rfl ⟨_, by intro W hW; go_simp <;> with_reducible rfl, ?_⟩
          try simp only [Act.put, pA_, pB_, pC_]
          refine sU_ hS 12 rfl ⟨_, by intro W hW; go_simp <;> with_reducible rfl, ?_⟩
          try simp only [Act.put, pA_, pB_, pC_]
          refine sU_ hS 13 rfl ⟨_, by intro W hW; go_simp <;> with_reducible rfl, ?_⟩
          try simp only [Act.put, pA_, pB_, pC_]
          refine sU_ hS 14 rfl ⟨_, by intro W hW; go_simp <;> with_reducible rfl, ?_⟩
          try simp only [Act.put, pA_, pB_, pC_]
          refine wpS_done (by kernel_rfl) ?_
          clear hS HD c0 c1 c2 c3
          go_upto_region 20 with fail
          go_cut [23, 24, 25, 26] (fun v y x z wx => ∃ (gz : Nat) (a2x : Option Addr) (k2x : Nat), v = .pointer (some ⟨gz, 0, none⟩) ∧ y = .int .u64 (n' : Int) ∧ x = .slice a2x bx.length k2x ∧ z = .int .i64 er ∧ Hid (BlkAt gz 50 (ssC sp' a1 a2 a3) wx ∧ Rd wx (.slice a2x bx.length k2x) bx ∧ Below w12.heap.size w12 wx))
          case first =>
            have hB : Below w12.heap.size w12 w12.drew := (Below.refl _ _).drew
            refine wpB_begin (Below.refl w12.heap.size w12) (by kernel_rfl) ?_
            refine bU_ hB 0 rfl ⟨_, by intro W hW; refine Eq.trans (exec_load_part 27 _ (by rfl) (by rfl) [] (rlC r) [] HJ12.out.1.rul hW (by rfl) rfl Tryd.underlying27 rfl info_r22) ?_; with_reducible rfl, ?_⟩
            try simp only [Act.put, pA_, pB_, pC_]
            refine bU_ hB 1 rfl ⟨_, by intro W hW; go_simp <;> with_reducible rfl, ?_⟩
            try simp only [Act.put, pA_, pB_, pC_]
            refine bU_ hB 2 rfl ⟨_, by intro W hW; go_simp <;> with_reducible rfl, ?_⟩
            try simp only [Act.put, pA_, pB_, pC_]
            refine bU_ hB 3 rfl ⟨_, by intro W hW; refine Eq.trans (exec_load_part 50 _ (by rfl) (by rfl) (preS X so b1 b2 b3) (ssC sp a1 a2 a3) (postS X so b1 b2 b3) HJ12.out.1.ars hW (by rfl) (preS_len hX2) Tryd.underlying50 rfl info_ss) ?_; with_reducible rfl, ?_⟩
            try simp only [Act.put, pA_, pB_, pC_]
            refine bU_ hB 4 rfl ⟨_, by intro W hW; go_simp <;> with_reducible rfl, ?_⟩
            try simp only [Act.put, pA_, pB_, pC_]
            refine bU_ hB 5 rfl ⟨_, by intro W hW; have cW : W.cell? ⟨ga, 1, none⟩ = some (.slice aq Lq cq) := (HAc.out _ (HJ12.out.2.1.kept hW)).2.1; go_simp <;> with_reducible rfl, ?_⟩
            try simp only [Act.put, pA_, pB_, pC_]
            refine bU_ hB 6 rfl ⟨_, by intro W hW; go_simp <;> with_reducible rfl, ?_⟩
            try simp only [Act.put, pA_, pB_, pC_]
            refine bU_ hB 7 rfl ⟨_, by intro W hW; have cW : W.cell? ⟨ga, 3, none⟩ = some (.int .u64 (nw : Int)) := (HAc.out _ (HJ12.out.2.1.kept hW)).2.2.2; go_simp <;> with_reducible rfl, ?_⟩
            try simp only [Act.put, pA_, pB_, pC_]
            refine bF_ 8 14 (fun K hK => ?_) (fun K hK => ?_)
            · go_simp
              refine (seal22_any r HR.out sp HJX.out.1.dok a1 a2 a3 _ q.b (by have := HQl.out; omega) nw HNw.out.1 _ _ rfl rfl _ (HJ12.out.1.doc.kept hB) (HRq.out _ (stepB HJ12.out.1.below hB))).mono ?_
              rw [HG.out]
              rintro e wq ⟨x2, rfl, hRx2, bq⟩
              obtain ⟨a2x, k2x, rfl, -⟩ := id hRx2
              replace hB := stepB hB bq
              try replace hM := BlkAt.kept hM bq
              refine hK.out _ _ hB ?_
              clear hK K
              try simp only [Act.put, pA_, pB_, pC_]
              refine bU_ hB 9 rfl ⟨_, by intro W hW; go_simp <;> with_reducible rfl, ?_⟩
              try simp only [Act.put, pA_, pB_, pC_]
              refine bU_ hB 10 rfl ⟨_, by intro W hW; go_simp <;> with_reducible rfl, ?_⟩
              try simp only [Act.put, pA_, pB_, pC_]
              refine bU_ hB 11 rfl ⟨_, by intro W hW; go_simp <;> with_reducible rfl, ?_⟩
              try simp only [Act.put, pA_, pB_, pC_]
              refine bU_ hB 12 rfl ⟨_, by intro W hW; go_simp <;> with_reducible rfl, ?_⟩
              try simp only [Act.put, pA_, pB_, pC_]
              refine bU_ hB 13 rfl ⟨_, by intro W hW; go_simp <;> with_reducible rfl, ?_⟩
              try simp only [Act.put, pA_, pB_, pC_]
              refine bD_ 14 fun K hK => ?_
              refine wp_alloc_p22 hB 50 rfl zss (alloc_sz _) ?_
              intro gz wN hM hge hBA hBc hge2
              replace hB := hBA
              try replace hRx2 := Rd.kept hRx2 hBc
              refine hK.out _ _ hB ?_
              clear hK K
              try simp only [Act.put, pA_, pB_, pC_]
              refine bD_ 15 fun K hK => ?_
              refine wp_store_part 50 _ _ rfl rfl (ssC sp' a1 a2 a3) rfl [] zss [] (ssC sp' a1 a2 a3) hM (by rfl) (by simp) rfl rfl info_ss (ssC_one (HSk.out _ HJ12.out.1.doc)) ?_
              intro wS hMS hwS
              replace hB := hwS.below _ _ hge hB
              replace hRx2 := hRx2.past16 hM zss_no8 (Chg.of_wrote hwS)
              refine hK.out _ _ hB ?_
              clear hK K
              try simp only [Act.put, pA_, pB_, pC_]
              refine bU_ hB 16 rfl ⟨_, by intro W hW; go_simp <;> with_reducible rfl, ?_⟩
              try simp only [Act.put, pA_, pB_, pC_]
              refine bU_ hB 17 rfl ⟨_, by intro W hW; go_simp <;> with_reducible rfl, ?_⟩
              try simp only [Act.put, pA_, pB_, pC_]
              refine bU_ hB 18 rfl ⟨_, by intro W hW; go_simp <;> with_reducible rfl, ?_⟩
              try simp only [Act.put, pA_, pB_, pC_]
              refine wpB_done (by kernel_rfl) ?_
              have HE : Hid (BlkAt gz 50 (ssC sp' a1 a2 a3) wS ∧ Rd wS (.slice a2x bx.length k2x) bx ∧ Below w12.heap.size w12 wS) := ⟨hMS, hRx2, hB⟩
              clear hMS hRx2 hB hM hwS
              go_wp2_with fail
              go_meet
              exact ⟨gz, a2x, k2x, rfl, rfl, rfl, rfl, HE⟩
            · refine wp_alloc_p22 hB 50 rfl zss (alloc_sz _) ?_
              intro gz wN hM hge hBA hBc hge2
              replace hB := hBA
              try replace hRx2 := Rd.kept hRx2 hBc
              refine hK.out _ _ hB ?_
              clear hK K
              try simp only [Act.put, pA_, pB_, pC_]
              refine bD_ 8 fun K hK => ?_
              go_simp
              refine (seal22_any r HR.out sp HJX.out.1.dok a1 a2 a3 _ q.b (by have := HQl.out; omega) nw HNw.out.1 _ _ rfl rfl _ (HJ12.out.1.doc.kept hB) (HRq.out _ (stepB HJ12.out.1.below hB))).mono ?_
              rw [HG.out]
              rintro e wq ⟨x2, rfl, hRx2, bq⟩
              obtain ⟨a2x, k2x, rfl, -⟩ := id hRx2
              replace hB := stepB hB bq
              try replace hM := BlkAt.kept hM bq
              refine hK.out _ _ hB ?_
              clear hK K
              try simp only [Act.put, pA_, pB_, pC_]
              refine bU_ hB 9 rfl ⟨_, by intro W hW; go_simp <;> with_reducible rfl, ?_⟩
              try simp only [Act.put, pA_, pB_, pC_]
              refine bU_ hB 10 rfl ⟨_, by intro W hW; go_simp <;> with_reducible rfl, ?_⟩
              try simp only [Act.put, pA_, pB_, pC_]
              refine bU_ hB 11 rfl ⟨_, by intro W hW; go_simp <;> with_reducible rfl, ?_⟩
              try simp only [Act.put, pA_, pB_, pC_]
              refine bU_ hB 12 rfl ⟨_, by intro W hW; go_simp <;> with_reducible rfl, ?_⟩
              try simp only [Act.put, pA_, pB_, pC_]
              refine bU_ hB 13 rfl ⟨_, by intro W hW; go_simp <;> with_reducible rfl, ?_⟩
              try simp only [Act.put, pA_, pB_, pC_]
              refine bD_ 15 fun K hK => ?_
              refine wp_store_part 50 _ _ rfl rfl (ssC sp' a1 a2 a3) rfl [] zss [] (ssC sp' a1 a2 a3) hM (by rfl) (by simp) rfl rfl info_ss (ssC_one (HSk.out _ HJ12.out.1.doc)) ?_
              intro wS hMS hwS
              replace hB := hwS.below _ _ hge hB
              replace hRx2 := hRx2.past16 hM zss_no8 (Chg.of_wrote hwS)
              refine hK.out _ _ hB ?_
              clear hK K
              try simp only [Act.put, pA_, pB_, pC_]
              refine bU_ hB 16 rfl ⟨_, by intro W hW; go_simp <;> with_reducible rfl, ?_⟩
              try simp only [Act.put, pA_, pB_, pC_]
              refine bU_ hB 17 rfl ⟨_, by intro W hW; go_simp <;> with_reducible rfl, ?_⟩
              try simp only [Act.put, pA_, pB_, pC_]
              refine bU_ hB 18 rfl ⟨_, by intro W hW; go_simp <;> with_reducible rfl, ?_⟩
              try simp only [Act.put, pA_, pB_, pC_]
              refine wpB_done (by kernel_rfl) ?_
              have HE : Hid (BlkAt gz 50 (ssC sp' a1 a2 a3) wS ∧ Rd wS (.slice a2x bx.length k2x) bx ∧ Below w12.heap.size w12 wS) := ⟨hMS, hRx2, hB⟩
              clear hMS hRx2 hB hM hwS
              go_wp2_with fail
              go_meet
              exact ⟨gz, a2x, k2x, rfl, rfl, rfl, rfl, HE⟩
          case rest =>
          obtain ⟨gz, a2x, k2x, rfl, rfl, rfl, rfl, HZ⟩ := hcut
          rename World => w13
          have HJ13 : Hid (PlX w gR gX gS X gk go r sp' sp so a1 a2 a3 b1 b2 b3 u15 u16 ns bs i w13 ∧ BlkAt ga 54 (asL q (.slice aq Lq cq)) w13 ∧ Rd w13 (.slice ax bx.length kx) bx) := ⟨HJ12.out.1.kept HZ.out.2.2, HJ12.out.2.1.kept HZ.out.2.2, HJ12.out.2.2.kept HZ.out.2.2⟩
          clear HJ12
          go_wp2_with (first | refine wpList_load_part rfl 50 _ rfl rfl [] (ssC sp' a1 a2 a3) [] HZ.out.1 (by simp) rfl Tryd.underlying50 rfl info_ss ?_ | refine wpList_store_part rfl 50 _ _ rfl rfl (ssC sp' a1 a2 a3) rfl (preS X so b1 b2 b3) (ssC sp a1 a2 a3) (postS X so b1 b2 b3) (arS X sp' so a1 a2 a3 b1 b2 b3) HJ13.out.1.ars rfl rfl (preS_len hX2) rfl info_ss (ssC_one (HSk.out _ HJ13.out.1.doc)) ?_)
          intro w14 r14 hw14
          have hk14 : K8 w13 w14 := K8.blk HJ13.out.1.ars (arS_8 HJ13.out.1.doc HJ13.out.1.dother) (Chg.of_wrote hw14)
          have HJ14 : Hid (PlX w gR gX gS X gk go r sp' sp' so a1 a2 a3 b1 b2 b3 u15 u16 ns bs (i + 1) w14 ∧ BlkAt ga 54 (asL q (.slice aq Lq cq)) w14 ∧ Rd w14 (.slice ax bx.length kx) bx ∧ Rd w14 (.slice a2x bx.length k2x) bx) := ⟨HJ13.out.1.docs (Chg.of_wrote hw14) r14 (HSk.out _ HJ13.out.1.doc) HJ13.out.1.ap HGl.out.2.2.2 HGl.out.2.2.1 (Nat.le_succ _), HJ13.out.2.1.wrote hw14 (blk_ne22 HJ13.out.2.1 HJ13.out.1.ars (by decide)), HJ13.out.2.2.k8 hk14, HZ.out.2.1.k8 hk14⟩
          have hcv1 := convS22 HJ14.out.2.2.1
          have hcv2 := convS22 HJ14.out.2.2.2
          obtain ⟨Lx, hLx⟩ : ∃ n, n = bx.length := ⟨_, rfl⟩
          rw [← hLx] at hcv1 hcv2 HJ14 ⊢
          have HLx : Hid (Lx = bx.length) := hLx
          clear hk14 r14 hw14 HJ13 HZ hLx
          have HK15 : Hid (PlX w gR gX gS X gk go r sp' sp' so a1 a2 a3 b1 b2 b3 u15 u16 ns bs (i + 1) (w14.alloc (.cells #[.int .u64 (n' : Int)] 22)) ∧ BlkAt ga 54 (asL q (.slice aq Lq cq)) (w14.alloc (.cells #[.int .u64 (n' : Int)] 22)) ∧ Rd (w14.alloc (.cells #[.int .u64 (n' : Int)] 22)) (.slice a2x Lx k2x) bx) := ⟨HJ14.out.1.kept (growB _), HJ14.out.2.1.kept (growB _), HJ14.out.2.2.2.kept (growB _)⟩
          go_wp2_with (at_builtin; go_must (refine wpList_append_nump rfl _ _ rfl _ ns rfl HK15.out.1.num HK15.out.1.below.size (by have := HJX.out.2.2.2; have := HI1.out; omega) w14.heap.size 1 n' rfl cell_onep ?_))
          intro vn' w16 hz16 hc16 hk16 hv16
          have hga16 : ¬ (some ga = (u15).ownBlock) := row_ne HK15.out.1.num HK15.out.2.1 (by decide)
          have HJ16 : Hid (PlX w gR gX gS X gk go r sp' sp' so a1 a2 a3 b1 b2 b3 vn' u16 (ns ++ [n']) bs (i + 1) w16 ∧ BlkAt ga 54 (asL q (.slice aq Lq cq)) w16 ∧ Rd w16 (.slice a2x Lx k2x) bx) := ⟨HK15.out.1.numb HGl.out.2.1 hz16 hc16 hk16 (hv16.imp id fun h b hb => by have := h b hb; simpa using this), HK15.out.2.1.chg hc16 hga16, HK15.out.2.2.k8 hk16⟩
          have HK16 : Hid (PlX w gR gX gS X gk go r sp' sp' so a1 a2 a3 b1 b2 b3 vn' u16 (ns ++ [n']) bs (i + 1) (w16.alloc (.cells #[.slice a2x Lx k2x] 40)) ∧ BlkAt ga 54 (asL q (.slice aq Lq cq)) (w16.alloc (.cells #[.slice a2x Lx k2x] 40)) ∧ Rd (w16.alloc (.cells #[.slice a2x Lx k2x] 40)) (.slice a2x Lx k2x) bx) := ⟨HJ16.out.1.kept (growB _), HJ16.out.2.1.kept (growB _), HJ16.out.2.2.kept (growB _)⟩
          clear hz16 hc16 hk16 hv16 hga16 hcv1 hcv2 HJ14 HK15
          go_wp2_with (at_builtin; go_must (refine wpList_append_boxp rfl _ _ rfl _ bs rfl HK16.out.1.box HK16.out.1.below.size (by have := HJX.out.2.2.1; have := HJX.out.2.2.2; have := HI1.out; omega) HK16.out.1.f8 w16.heap.size 1 a2x Lx k2x rfl cell_onep ?_))
          intro vb' w17 hz17 hc17 hk17 hv17
          have hga17 : ¬ (some ga = (u16).ownBlock) := row_ne HK16.out.1.box HK16.out.2.1 (by decide)
          have HJ17 : Hid (PlX w gR gX gS X gk go r sp' sp' so a1 a2 a3 b1 b2 b3 vn' vb' (ns ++ [n']) (bs ++ [.slice a2x Lx k2x]) (i + 1) w17 ∧ BlkAt ga 54 (asL q (.slice aq Lq cq)) w17 ∧ (bs ++ [Value.slice a2x Lx k2x]).length = (ns ++ [n']).length ∧ (ns ++ [n']).length ≤ i + 1) := ⟨HK16.out.1.boxd HLx.out HGl.out.1 HK16.out.2.2 hz17 hc17 hk17 (hv17.imp id fun h b hb => by have := h b hb; simpa using this), HK16.out.2.1.chg hc17 hga17, by simp [HJX.out.2.2.1], by have := HJX.out.2.2.2; simp; omega⟩
          clear hz17 hc17 hk17 hv17 hga17 HJ16 HK16
          go_wp2_with fail
          go_meet
          exact ⟨sp', a3, _, _, HJ17⟩
      · have dY : ((Y : Int) == 0) = false := by rw [beq_eq_false_iff_ne]; omega
        clear hY hY1
        as_aux_lemma =>
          obtain ⟨av16, cv16, e16, hcb16, hmb16⟩ := HJX.out.1.box.form
          obtain ⟨an15, cn15, e15, hcn15, hmn15⟩ := HJX.out.1.num.form
          rw [nW_length, ← HJX.out.2.2.1] at e15 hcn15
          obtain ⟨m, hm⟩ : ∃ m, m = bs.length := ⟨_, rfl⟩
          rw [← hm] at e15 e16 hcn15 hcb16
          subst e15 e16
          unfold maxLen at hmb16 hmn15
          have HmL : Hid (m = bs.length ∧ m = ns.length ∧ m ≤ 20 ∧ m ≤ cv16 ∧ m ≤ cn15 ∧ cv16 ≤ 9223372036854775807 ∧ cn15 ≤ 9223372036854775807) := ⟨hm, by rw [hm]; exact HJX.out.2.2.1, by have := HJX.out.2.2.1; have := HJX.out.2.2.2; have := HI1.out; omega, hcb16, hcn15, hmb16, hmn15⟩
          have HR11 : Hid (Rd w11 (.slice aq Lq cq) q.b) := HRq.out _ HJX.out.1.below
          clear hm hcb16 hcn15 hmb16 hmn15
          by_cases hm0 : m = 0
          · have dm : decide ((0 : Int) < (m : Int)) = false := decide_eq_false (by omega)
            have dmN : decide (0 < m) = false := decide_eq_false (by omega)
            have HNB : Hid (qn < 18446744073709551616 ∧ Rd w11 (.slice aq Lq cq) q.b ∧ q.b.length ≤ 3000000) := ⟨HNw.out.2, HR11.out, by have := HQl.out; omega⟩
            clear hm0
            as_aux_lemma =>
              obtain ⟨G, hG⟩ : ∃ G, G = ssO r sp qn q.b nw := ⟨_, rfl⟩
              have HSk : Hid (∀ W v3', SsR W sp a1 a2 a3 → RdI .u64 W v3' (nU G.1.came) → SsR W G.1 a1 a2 v3') := fun W v3' h hc => by rw [hG] at hc ⊢; exact h.open22 hc
              have HGl : Hid (G.1.came.length ≤ i + 1 ∧ SesW G.1) := by
                show _ ∧ _
                rw [hG]
                exact ⟨by have := (ssO_keep r sp qn q.b nw).2.2; have := HJX.out.1.lim.1; omega, ssO_ok HJX.out.1.dok HNB.out.1⟩
              have HG : Hid (ssO r sp qn q.b nw = G) := hG.symm
              clear hG
              obtain ⟨sp', bx, er⟩ := G
              go_wp2_with fail
              have hdr : Below w11.heap.size w11 w11.drew := (Below.refl _ w11).drew
              have HD : Hid (PlX w gR gX gS X gk go r sp sp so a1 a2 a3 b1 b2 b3 (.slice an15 m cn15) (.slice av16 m cv16) ns bs i w11.drew ∧ BlkAt ga 54 (asL q (.slice aq Lq cq)) w11.drew ∧ Rd w11.drew (.slice aq Lq cq) q.b) := ⟨HJX.out.1.kept hdr, HJX.out.2.1.kept hdr, HNB.out.2.1.kept hdr⟩
              have hS : w11.drew.cell? ⟨gX, X, none⟩ = some (.pointer (some ⟨gk, 0, none⟩)) ∧ w11.drew.cell? ⟨ga, 3, none⟩ = some (.int .u64 (nw : Int)) := ⟨HD.out.1.cellX hX2, (HAc.out _ HD.out.2.1).2.2.2⟩
              clear hdr
              refine wpS_begin (fun W => W.cell? ⟨gX, X, none⟩ = some (.pointer (some ⟨gk, 0, none⟩)) ∧ W.cell? ⟨ga, 3, none⟩ = some (.int .u64 (nw : Int))) (by kernel_rfl) ?_
              refine sU_ hS 0 rfl ⟨_, by intro W hW; go_simp <;> with_reducible rfl, ?_⟩
              try simp only [Act.put, pA_, pB_, pC_]
              refine sU_ hS 1 rfl ⟨_, by intro W hW; go_simp <;> with_reducible rfl, ?_⟩
              try simp only [Act.put, pA_, pB_, pC_]
              refine sU_ hS 2 rfl ⟨_, by intro W hW; have cW := hW.1; go_simp <;> with_reducible rfl, ?_⟩
              try simp only [Act.put, pA_, pB_, pC_]
              refine sU_ hS 3 rfl ⟨_, by intro W hW; go_simp <;> with_reducible rfl, ?_⟩
              try simp only [Act.put, pA_, pB_, pC_]
              refine sU_ hS 4 rfl ⟨_, by intro W hW; go_simp <;> with_reducible rfl, ?_⟩
              try simp only [Act.put, pA_, pB_, pC_]
              refine sU_ hS 5 rfl ⟨_, by intro W hW; go_simp <;> with_reducible rfl, ?_⟩
              try simp only [Act.put, pA_, pB_, pC_]
              refine sU_ hS 6 rfl ⟨_, by intro W hW; have cW := hW.2; go_simp <;> with_reducible rfl, ?_⟩
              try simp only [Act.put, pA_, pB_, pC_]
              refine sD_ 7 fun K hK => ?_
              go_simp
              refine (zopen_any gk r sp qn HNB.out.1 _ q.b HNB.out.2.2 nw HNw.out.1 _ HD.out.1.mine HD.out.2.2 (HP.out.1.kept HD.out.1.below) (HP.out.2.kept HD.out.1.below)).mono ?_
              rw [HG.out]
              rintro e w12 ⟨x, rfl, hOx, hSx, hCx⟩
              obtain ⟨cm, hcm, -⟩ := HD.out.1.mine.blk
              have HJ12 : Hid (PlX w gR gX gS X gk go r sp' sp so a1 a2 a3 b1 b2 b3 (.slice an15 m cn15) (.slice av16 m cv16) ns bs i w12 ∧ BlkAt ga 54 (asL q (.slice aq Lq cq)) w12 ∧ Rd w12 x bx ∧ Rd w12 (.slice aq Lq cq) q.b) := ⟨HD.out.1.prog hCx hSx, HD.out.2.1.chg hCx (blk_ne22 HD.out.2.1 hcm (by decide)), hOx.rd, HD.out.2.2.k8 (HD.out.1.mine.k8 hCx)⟩
              obtain ⟨ax, kx, rfl, -⟩ := id hOx.rd
              have hS : w12.cell? ⟨gX, X, none⟩ = some (.pointer (some ⟨gk, 0, none⟩)) ∧ w12.cell? ⟨ga, 3, none⟩ = some (.int .u64 (nw : Int)) := ⟨HJ12.out.1.cellX hX2, (HAc.out _ HJ12.out.2.1).2.2.2⟩
              clear hOx hSx hCx hcm
              refine hK.out _ _ hS ?_
              clear hK K
              try simp only [Act.put, pA_, pB_, pC_]
              refine sU_ hS 8 rfl ⟨_, by intro W hW; go_simp <;> with_reducible rfl, ?_⟩
              try simp only [Act.put, pA_, pB_, pC_]
              refine sU_ hS 9 rfl ⟨_, by intro W hW; go_simp <;> with_reducible rfl, ?_⟩
              try simp only [Act.put, pA_, pB_, pC_]
              refine sU_ hS 10 rfl ⟨_, by intro W hW; go_simp <;> with_reducible rfl, ?_⟩
              try simp only [Act.put, pA_, pB_, pC_]
              refine sU_ hS 11 rfl ⟨_, by intro W hW; go_simp <;> with_reducible rfl, ?_⟩
              try simp only [Act.put, pA_, pB_, pC_]
              refine sU_ hS 12 rfl ⟨_, by intro W hW; go_simp <;> with_reducible rfl, ?_⟩
              try simp only [Act.put, pA_, pB_, pC_]
              refine wpS_done (by kernel_rfl) ?_
              clear hS HD c0 c1 c2 c3
              go_upto_region 33 with fail
              go_cut [32, 33, 34] (fun v x z wx => ∃ (gz : Nat) (a2x : Option Addr) (k2x : Nat) (v3' : Value), v = .pointer (some ⟨gz, 0, none⟩) ∧ x = .slice a2x bx.length k2x ∧ z = .int .i64 er ∧ Hid (BlkAt gz 50 (ssC sp' a1 a2 v3') wx ∧ Rd wx (.slice a2x bx.length k2x) bx ∧ SsR wx sp' a1 a2 v3' ∧ Apx gk go gS (.slice an15 m cn15) (.slice av16 m cv16) v3' wx ∧ Below w12.heap.size w12 wx))
              case first =>
                have hB : Below w12.heap.size w12 w12.drew := (Below.refl _ _).drew
                refine wpB_begin (Below.refl w12.heap.size w12) (by kernel_rfl) ?_
                refine bU_ hB 0 rfl ⟨_, by intro W hW; refine Eq.trans (exec_load_part 27 _ (by rfl) (by rfl) [] (rlC r) [] HJ12.out.1.rul hW (by rfl) rfl Tryd.underlying27 rfl info_r22) ?_; with_reducible rfl, ?_⟩
                try simp only [Act.put, pA_, pB_, pC_]
                refine bU_ hB 1 rfl ⟨_, by intro W hW; go_simp <;> with_reducible rfl, ?_⟩
                try simp only [Act.put, pA_, pB_, pC_]
                refine bU_ hB 2 rfl ⟨_, by intro W hW; go_simp <;> with_reducible rfl, ?_⟩
                try simp only [Act.put, pA_, pB_, pC_]
                refine bU_ hB 3 rfl ⟨_, by intro W hW; refine Eq.trans (exec_load_part 50 _ (by rfl) (by rfl) (preS X so b1 b2 b3) (ssC sp a1 a2 a3) (postS X so b1 b2 b3) HJ12.out.1.ars hW (by rfl) (preS_len hX2) Tryd.underlying50 rfl info_ss) ?_; with_reducible rfl, ?_⟩
                try simp only [Act.put, pA_, pB_, pC_]
                refine bU_ hB 4 rfl ⟨_, by intro W hW; go_simp <;> with_reducible rfl, ?_⟩
                try simp only [Act.put, pA_, pB_, pC_]
                refine bU_ hB 5 rfl ⟨_, by intro W hW; go_simp <;> with_reducible rfl, ?_⟩
                try simp only [Act.put, pA_, pB_, pC_]
                refine bU_ hB 6 rfl ⟨_, by intro W hW; go_simp <;> with_reducible rfl, ?_⟩
                try simp only [Act.put, pA_, pB_, pC_]
                refine bU_ hB 7 rfl ⟨_, by intro W hW; have cW : W.cell? ⟨ga, 3, none⟩ = some (.int .u64 (nw : Int)) := (HAc.out _ (HJ12.out.2.1.kept hW)).2.2.2; go_simp <;> with_reducible rfl, ?_⟩
                try simp only [Act.put, pA_, pB_, pC_]
                refine bF_ 8 13 (fun K hK => ?_) (fun K hK => ?_)
                · go_simp
                  refine (open22_any r sp HJX.out.1.dok (by have := HJX.out.1.lim.1; have := HI1.out; omega) a1 a2 a3 _ qn HNB.out.1 q.b HNB.out.2.2 nw HNw.out.1 _ _ rfl rfl _ (HJ12.out.1.doc.kept hB) (HJ12.out.2.2.2.kept hB)).mono ?_
                  rw [HG.out]
                  rintro e wq ⟨v3', x2, rfl, hv3, hR3, hRx2, bq⟩
                  obtain ⟨a2x, k2x, rfl, -⟩ := id hRx2
                  have hws := hB.size
                  replace hB := stepB hB bq
                  have hqs : wq.heap.size ≤ wq.heap.size := Nat.le_refl _
                  try replace hM := BlkAt.kept hM bq
                  refine hK.out _ _ hB ?_
                  clear hK K
                  try simp only [Act.put, pA_, pB_, pC_]
                  refine bU_ hB 9 rfl ⟨_, by intro W hW; go_simp <;> with_reducible rfl, ?_⟩
                  try simp only [Act.put, pA_, pB_, pC_]
                  refine bU_ hB 10 rfl ⟨_, by intro W hW; go_simp <;> with_reducible rfl, ?_⟩
                  try simp only [Act.put, pA_, pB_, pC_]
                  refine bU_ hB 11 rfl ⟨_, by intro W hW; go_simp <;> with_reducible rfl, ?_⟩
                  try simp only [Act.put, pA_, pB_, pC_]
                  refine bU_ hB 12 rfl ⟨_, by intro W hW; go_simp <;> with_reducible rfl, ?_⟩
                  try simp only [Act.put, pA_, pB_, pC_]
                  refine bD_ 13 fun K hK => ?_
                  refine wp_alloc_p22 hB 50 rfl zss (alloc_sz _) ?_
                  intro gz wN hM hge hBA hBc hge2
                  replace hB := hBA
                  have hzl := hM.lt
                  try replace hRx2 := Rd.kept hRx2 hBc
                  try replace hR3 := RdI.kept hR3 hBc
                  try replace hqs := Nat.le_trans hqs hBc.size
                  refine hK.out _ _ hB ?_
                  clear hK K
                  try simp only [Act.put, pA_, pB_, pC_]
                  refine bD_ 14 fun K hK => ?_
                  have hne : ∀ b, v3'.ownBlock = some b → ¬ b = gz := by
                    intro b hb
                    rcases hv3 with e | h
                    · rw [e] at hb
                      have := (HJ12.out.1.ap.all b hb).2.2.2.2.2
                      omega
                    · have := h b hb
                      omega
                  refine wp_store_part 50 _ _ rfl rfl (ssC sp' a1 a2 v3') rfl [] zss [] (ssC sp' a1 a2 v3') hM (by rfl) (by simp) rfl rfl info_ss (ssC_one (HSk.out _ v3' (HJ12.out.1.doc.kept hB) hR3)) ?_
                  intro wS hMS hwS
                  replace hB := hwS.below _ _ hge hB
                  replace hRx2 := hRx2.past16 hM zss_no8 (Chg.of_wrote hwS)
                  replace hR3 := hR3.chg22 (Chg.of_wrote hwS) hne
                  have hqs2 := Nat.le_trans hqs (Chg.of_wrote hwS).size
                  have hap : Apx gk go gS (.slice an15 m cn15) (.slice av16 m cv16) v3' wS := ⟨fun b hb => by
                    rcases hv3 with e | h
                    · rw [e] at hb
                      obtain ⟨e1, e2, e3, e4, e5, e6⟩ := HJ12.out.1.ap.all b hb
                      exact ⟨e1, e2, e3, e4, e5, Nat.lt_of_lt_of_le e6 hB.size⟩
                    · obtain ⟨e1, e2⟩ := h b hb
                      have f1 := HJ12.out.1.mine.lt
                      have f2 := HJ12.out.1.other.lt
                      have f3 := HJ12.out.1.ars.lt
                      exact ⟨by omega, by omega, by omega, fun h2 => by have := (HJ12.out.1.num.lt b h2).2; omega, fun h2 => by have := (HJ12.out.1.box.lt b h2).2; omega, by omega⟩⟩
                  refine hK.out _ _ hB ?_
                  clear hK K
                  try simp only [Act.put, pA_, pB_, pC_]
                  refine bU_ hB 15 rfl ⟨_, by intro W hW; go_simp <;> with_reducible rfl, ?_⟩
                  try simp only [Act.put, pA_, pB_, pC_]
                  refine bU_ hB 16 rfl ⟨_, by intro W hW; go_simp <;> with_reducible rfl, ?_⟩
                  try simp only [Act.put, pA_, pB_, pC_]
                  refine wpB_done (by kernel_rfl) ?_
                  have HE : Hid (BlkAt gz 50 (ssC sp' a1 a2 v3') wS ∧ Rd wS (.slice a2x bx.length k2x) bx ∧ SsR wS sp' a1 a2 v3' ∧ Apx gk go gS (.slice an15 m cn15) (.slice av16 m cv16) v3' wS ∧ Below w12.heap.size w12 wS) := ⟨hMS, hRx2, HSk.out _ v3' (HJ12.out.1.doc.kept hB) hR3, hap, hB⟩
                  clear hMS hRx2 hB hM hwS hR3 hap hqs2 hne
                  go_wp2_with fail
                  go_meet
                  exact ⟨gz, a2x, k2x, v3', rfl, rfl, rfl, HE⟩
                · refine wp_alloc_p22 hB 50 rfl zss (alloc_sz _) ?_
                  intro gz wN hM hge hBA hBc hge2
                  replace hB := hBA
                  have hzl := hM.lt
                  try replace hRx2 := Rd.kept hRx2 hBc
                  try replace hR3 := RdI.kept hR3 hBc
                  try replace hqs := Nat.le_trans hqs hBc.size
                  refine hK.out _ _ hB ?_
                  clear hK K
                  try simp only [Act.put, pA_, pB_, pC_]
                  refine bD_ 8 fun K hK => ?_
                  go_simp
                  refine (open22_any r sp HJX.out.1.dok (by have := HJX.out.1.lim.1; have := HI1.out; omega) a1 a2 a3 _ qn HNB.out.1 q.b HNB.out.2.2 nw HNw.out.1 _ _ rfl rfl _ (HJ12.out.1.doc.kept hB) (HJ12.out.2.2.2.kept hB)).mono ?_
                  rw [HG.out]
                  rintro e wq ⟨v3', x2, rfl, hv3, hR3, hRx2, bq⟩
                  obtain ⟨a2x, k2x, rfl, -⟩ := id hRx2
                  have hws := hB.size
                  replace hB := stepB hB bq
                  have hqs : wq.heap.size ≤ wq.heap.size := Nat.le_refl _
                  try replace hM := BlkAt.kept hM bq
                  refine hK.out _ _ hB ?_
                  clear hK K
                  try simp only [Act.put, pA_, pB_, pC_]
                  refine bU_ hB 9 rfl ⟨_, by intro W hW; go_simp <;> with_reducible rfl, ?_⟩
                  try simp only [Act.put, pA_, pB_, pC_]
                  refine bU_ hB 10 rfl ⟨_, by intro W hW; go_simp <;> with_reducible rfl, ?_⟩
                  try simp only [Act.put, pA_, pB_, pC_]
                  refine bU_ hB 11 rfl ⟨_, by intro W hW; go_simp <;> with_reducible rfl, ?_⟩
                  try simp only [Act.put, pA_, pB_, pC_]
                  refine bU_ hB 12 rfl ⟨_, by intro W hW; go_simp <;> with_reducible rfl, ?_⟩
                  try simp only [Act.put, pA_, pB_, pC_]
                  refine bD_ 14 fun K hK => ?_
                  have hne : ∀ b, v3'.ownBlock = some b → ¬ b = gz := by
                    intro b hb
                    rcases hv3 with e | h
                    · rw [e] at hb
                      have := (HJ12.out.1.ap.all b hb).2.2.2.2.2
                      omega
                    · have := h b hb
                      omega
                  refine wp_store_part 50 _ _ rfl rfl (ssC sp' a1 a2 v3') rfl [] zss [] (ssC sp' a1 a2 v3') hM (by rfl) (by simp) rfl rfl info_ss (ssC_one (HSk.out _ v3' (HJ12.out.1.doc.kept hB) hR3)) ?_
                  intro wS hMS hwS
                  replace hB := hwS.below _ _ hge hB
                  replace hRx2 := hRx2.past16 hM zss_no8 (Chg.of_wrote hwS)
                  replace hR3 := hR3.chg22 (Chg.of_wrote hwS) hne
                  have hqs2 := Nat.le_trans hqs (Chg.of_wrote hwS).size
                  have hap : Apx gk go gS (.slice an15 m cn15) (.slice av16 m cv16) v3' wS := ⟨fun b hb => by
                    rcases hv3 with e | h
                    · rw [e] at hb
                      obtain ⟨e1, e2, e3, e4, e5, e6⟩ := HJ12.out.1.ap.all b hb
                      exact ⟨e1, e2, e3, e4, e5, Nat.lt_of_lt_of_le e6 hB.size⟩
                    · obtain ⟨e1, e2⟩ := h b hb
                      have f1 := HJ12.out.1.mine.lt
                      have f2 := HJ12.out.1.other.lt
                      have f3 := HJ12.out.1.ars.lt
                      exact ⟨by omega, by omega, by omega, fun h2 => by have := (HJ12.out.1.num.lt b h2).2; omega, fun h2 => by have := (HJ12.out.1.box.lt b h2).2; omega, by omega⟩⟩
                  refine hK.out _ _ hB ?_
                  clear hK K
                  try simp only [Act.put, pA_, pB_, pC_]
                  refine bU_ hB 15 rfl ⟨_, by intro W hW; go_simp <;> with_reducible rfl, ?_⟩
                  try simp only [Act.put, pA_, pB_, pC_]
                  refine bU_ hB 16 rfl ⟨_, by intro W hW; go_simp <;> with_reducible rfl, ?_⟩
                  try simp only [Act.put, pA_, pB_, pC_]
                  refine wpB_done (by kernel_rfl) ?_
                  have HE : Hid (BlkAt gz 50 (ssC sp' a1 a2 v3') wS ∧ Rd wS (.slice a2x bx.length k2x) bx ∧ SsR wS sp' a1 a2 v3' ∧ Apx gk go gS (.slice an15 m cn15) (.slice av16 m cv16) v3' wS ∧ Below w12.heap.size w12 wS) := ⟨hMS, hRx2, HSk.out _ v3' (HJ12.out.1.doc.kept hB) hR3, hap, hB⟩
                  clear hMS hRx2 hB hM hwS hR3 hap hqs2 hne
                  go_wp2_with fail
                  go_meet
                  exact ⟨gz, a2x, k2x, v3', rfl, rfl, rfl, HE⟩
              case rest =>
              obtain ⟨gz, a2x, k2x, v3', rfl, rfl, rfl, HZ⟩ := hcut
              rename World => w13
              have HJ13 : Hid (PlX w gR gX gS X gk go r sp' sp so a1 a2 a3 b1 b2 b3 (.slice an15 m cn15) (.slice av16 m cv16) ns bs i w13 ∧ BlkAt ga 54 (asL q (.slice aq Lq cq)) w13 ∧ Rd w13 (.slice ax bx.length kx) bx) := ⟨HJ12.out.1.kept HZ.out.2.2.2.2, HJ12.out.2.1.kept HZ.out.2.2.2.2, HJ12.out.2.2.1.kept HZ.out.2.2.2.2⟩
              clear HJ12
              go_wp2_with (first | refine wpList_load_part rfl 50 _ rfl rfl [] (ssC sp' a1 a2 v3') [] HZ.out.1 (by simp) rfl Tryd.underlying50 rfl info_ss ?_ | refine wpList_store_part rfl 50 _ _ rfl rfl (ssC sp' a1 a2 v3') rfl (preS X so b1 b2 b3) (ssC sp a1 a2 a3) (postS X so b1 b2 b3) (arS X sp' so a1 a2 v3' b1 b2 b3) HJ13.out.1.ars rfl rfl (preS_len hX2) rfl info_ss (ssC_one HZ.out.2.2.1) ?_)
              intro w14 r14 hw14
              have hk14 : K8 w13 w14 := K8.blk HJ13.out.1.ars (arS_8 HJ13.out.1.doc HJ13.out.1.dother) (Chg.of_wrote hw14)
              have hcv1 := convS22 (HJ13.out.2.2.k8 hk14)
              have hcv2 := convS22 (HZ.out.2.1.k8 hk14)
              have HJ14 : Hid (PlX w gR gX gS X gk go r sp' sp' so a1 a2 v3' b1 b2 b3 (.slice an15 m cn15) (.slice av16 m cv16) ns bs (i + 1) w14 ∧ BlkAt ga 54 (asL q (.slice aq Lq cq)) w14 ∧ bs.length = ns.length ∧ ns.length ≤ i + 1) := ⟨HJ13.out.1.docs (Chg.of_wrote hw14) r14 HZ.out.2.2.1 HZ.out.2.2.2.1 HGl.out.2 HGl.out.1 (Nat.le_succ _), HJ13.out.2.1.wrote hw14 (blk_ne22 HJ13.out.2.1 HJ13.out.1.ars (by decide)), HJX.out.2.2.1, Nat.le_succ_of_le HJX.out.2.2.2⟩
              clear hk14 r14 hw14 HJ13 HZ
              go_wp2_with fail
              go_meet
              exact ⟨sp', v3', ns, bs, HJ14⟩
          have dm : decide ((0 : Int) < (m : Int)) = true := decide_eq_true (by omega)
          have dmN : decide (0 < m) = true := decide_eq_true (by omega)
          by_cases hz0 : Z = 0
          · have dz : decide ((0 : Int) < (Z : Int)) = false := decide_eq_false (by omega)
            have dzN : decide (0 < Z) = false := decide_eq_false (by omega)
            have HNB : Hid (qn < 18446744073709551616 ∧ Rd w11 (.slice aq Lq cq) q.b ∧ q.b.length ≤ 3000000) := ⟨HNw.out.2, HR11.out, by have := HQl.out; omega⟩
            clear hz0 hm0
            as_aux_lemma =>
              obtain ⟨G, hG⟩ : ∃ G, G = ssO r sp qn q.b nw := ⟨_, rfl⟩
              have HSk : Hid (∀ W v3', SsR W sp a1 a2 a3 → RdI .u64 W v3' (nU G.1.came) → SsR W G.1 a1 a2 v3') := fun W v3' h hc => by rw [hG] at hc ⊢; exact h.open22 hc
              have HGl : Hid (G.1.came.length ≤ i + 1 ∧ SesW G.1) := by
                show _ ∧ _
                rw [hG]
                exact ⟨by have := (ssO_keep r sp qn q.b nw).2.2; have := HJX.out.1.lim.1; omega, ssO_ok HJX.out.1.dok HNB.out.1⟩
              have HG : Hid (ssO r sp qn q.b nw = G) := hG.symm
              clear hG
              obtain ⟨sp', bx, er⟩ := G
              go_wp2_with fail
              have hdr : Below w11.heap.size w11 w11.drew := (Below.refl _ w11).drew
              have HD : Hid (PlX w gR gX gS X gk go r sp sp so a1 a2 a3 b1 b2 b3 (.slice an15 m cn15) (.slice av16 m cv16) ns bs i w11.drew ∧ BlkAt ga 54 (asL q (.slice aq Lq cq)) w11.drew ∧ Rd w11.drew (.slice aq Lq cq) q.b) := ⟨HJX.out.1.kept hdr, HJX.out.2.1.kept hdr, HNB.out.2.1.kept hdr⟩
              have hS : w11.drew.cell? ⟨gX, X, none⟩ = some (.pointer (some ⟨gk, 0, none⟩)) ∧ w11.drew.cell? ⟨ga, 3, none⟩ = some (.int .u64 (nw : Int)) := ⟨HD.out.1.cellX hX2, (HAc.out _ HD.out.2.1).2.2.2⟩
              clear hdr
              refine wpS_begin (fun W => W.cell? ⟨gX, X, none⟩ = some (.pointer (some ⟨gk, 0, none⟩)) ∧ W.cell? ⟨ga, 3, none⟩ = some (.int .u64 (nw : Int))) (by kernel_rfl) ?_
              refine sU_ hS 0 rfl ⟨_, by intro W hW; go_simp <;> with_reducible rfl, ?_⟩
              try simp only [Act.put, pA_, pB_, pC_]
              refine sU_ hS 1 rfl ⟨_, by intro W hW; go_simp <;> with_reducible rfl, ?_⟩
              try simp only [Act.put, pA_, pB_, pC_]
              refine sU_ hS 2 rfl ⟨_, by intro W hW; have cW := hW.1; go_simp <;> with_reducible rfl, ?_⟩
              try simp only [Act.put, pA_, pB_, pC_]
              refine sU_ hS 3 rfl ⟨_, by intro W hW; go_simp <;> with_reducible rfl, ?_⟩
              try simp only [Act.put, pA_, pB_, pC_]
              refine sU_ hS 4 rfl ⟨_, by intro W hW; go_simp <;> with_reducible rfl, ?_⟩
              try simp only [Act.put, pA_, pB_, pC_]
              refine sU_ hS 5 rfl ⟨_, by intro W hW; go_simp <;> with_reducible rfl, ?_⟩
              try simp only [Act.put, pA_, pB_, pC_]
              refine sU_ hS 6 rfl ⟨_, by intro W hW; have cW := hW.2; go_simp <;> with_reducible rfl, ?_⟩
              try simp only [Act.put, pA_, pB_, pC_]
              refine sD_ 7 fun K hK => ?_
              go_simp
              refine (zopen_any gk r sp qn HNB.out.1 _ q.b HNB.out.2.2 nw HNw.out.1 _ HD.out.1.mine HD.out.2.2 (HP.out.1.kept HD.out.1.below) (HP.out.2.kept HD.out.1.below)).mono ?_
              rw [HG.out]
              rintro e w12 ⟨x, rfl, hOx, hSx, hCx⟩
              obtain ⟨cm, hcm, -⟩ := HD.out.1.mine.blk
              have HJ12 : Hid (PlX w gR gX gS X gk go r sp' sp so a1 a2 a3 b1 b2 b3 (.slice an15 m cn15) (.slice av16 m cv16) ns bs i w12 ∧ BlkAt ga 54 (asL q (.slice aq Lq cq)) w12 ∧ Rd w12 x bx ∧ Rd w12 (.slice aq Lq cq) q.b) := ⟨HD.out.1.prog hCx hSx, HD.out.2.1.chg hCx (blk_ne22 HD.out.2.1 hcm (by decide)), hOx.rd, HD.out.2.2.k8 (HD.out.1.mine.k8 hCx)⟩
              obtain ⟨ax, kx, rfl, -⟩ := id hOx.rd
              have hS : w12.cell? ⟨gX, X, none⟩ = some (.pointer (some ⟨gk, 0, none⟩)) ∧ w12.cell? ⟨ga, 3, none⟩ = some (.int .u64 (nw : Int)) := ⟨HJ12.out.1.cellX hX2, (HAc.out _ HJ12.out.2.1).2.2.2⟩
              clear hOx hSx hCx hcm
              refine hK.out _ _ hS ?_
              clear hK K
              try simp only [Act.put, pA_, pB_, pC_]
              refine sU_ hS 8 rfl ⟨_, by intro W hW; go_simp <;> with_reducible rfl, ?_⟩
              try simp only [Act.put, pA_, pB_, pC_]
              refine sU_ hS 9 rfl ⟨_, by intro W hW; go_simp <;> with_reducible rfl, ?_⟩
              try simp only [Act.put, pA_, pB_, pC_]
              refine sU_ hS 10 rfl ⟨_, by intro W hW; go_simp <;> with_reducible rfl, ?_⟩
              try simp only [Act.put, pA_, pB_, pC_]
              refine sU_ hS 11 rfl ⟨_, by intro W hW; go_simp <;> with_reducible rfl, ?_⟩
              try simp only [Act.put, pA_, pB_, pC_]
              refine sU_ hS 12 rfl ⟨_, by intro W hW; go_simp <;> with_reducible rfl, ?_⟩
              try simp only [Act.put, pA_, pB_, pC_]
              refine wpS_done (by kernel_rfl) ?_
              clear hS HD c0 c1 c2 c3
              go_upto_region 33 with fail
              go_cut [32, 33, 34] (fun v x z wx => ∃ (gz : Nat) (a2x : Option Addr) (k2x : Nat) (v3' : Value), v = .pointer (some ⟨gz, 0, none⟩) ∧ x = .slice a2x bx.length k2x ∧ z = .int .i64 er ∧ Hid (BlkAt gz 50 (ssC sp' a1 a2 v3') wx ∧ Rd wx (.slice a2x bx.length k2x) bx ∧ SsR wx sp' a1 a2 v3' ∧ Apx gk go gS (.slice an15 m cn15) (.slice av16 m cv16) v3' wx ∧ Below w12.heap.size w12 wx))
              case first =>
                have hB : Below w12.heap.size w12 w12.drew := (Below.refl _ _).drew
                refine wpB_begin (Below.refl w12.heap.size w12) (by kernel_rfl) ?_
                refine bU_ hB 0 rfl ⟨_, by intro W hW; refine Eq.trans (exec_load_part 27 _ (by rfl) (by rfl) [] (rlC r) [] HJ12.out.1.rul hW (by rfl) rfl Tryd.underlying27 rfl info_r22) ?_; with_reducible rfl, ?_⟩
                try simp only [Act.put, pA_, pB_, pC_]
                refine bU_ hB 1 rfl ⟨_, by intro W hW; go_simp <;> with_reducible rfl, ?_⟩
                try simp only [Act.put, pA_, pB_, pC_]
                refine bU_ hB 2 rfl ⟨_, by intro W hW; go_simp <;> with_reducible rfl, ?_⟩
                try simp only [Act.put, pA_, pB_, pC_]
                refine bU_ hB 3 rfl ⟨_, by intro W hW; refine Eq.trans (exec_load_part 50 _ (by rfl) (by rfl) (preS X so b1 b2 b3) (ssC sp a1 a2 a3) (postS X so b1 b2 b3) HJ12.out.1.ars hW (by rfl) (preS_len hX2) Tryd.underlying50 rfl info_ss) ?_; with_reducible rfl, ?_⟩
                try simp only [Act.put, pA_, pB_, pC_]
                refine bU_ hB 4 rfl ⟨_, by intro W hW; go_simp <;> with_reducible rfl, ?_⟩
                try simp only [Act.put, pA_, pB_, pC_]
                refine bU_ hB 5 rfl ⟨_, by intro W hW; go_simp <;> with_reducible rfl, ?_⟩
                try simp only [Act.put, pA_, pB_, pC_]
                refine bU_ hB 6 rfl ⟨_, by intro W hW; go_simp <;> with_reducible rfl, ?_⟩
                try simp only [Act.put, pA_, pB_, pC_]
                refine bU_ hB 7 rfl ⟨_, by intro W hW; have cW : W.cell? ⟨ga, 3, none⟩ = some (.int .u64 (nw : Int)) := (HAc.out _ (HJ12.out.2.1.kept hW)).2.2.2; go_simp <;> with_reducible rfl, ?_⟩
                try simp only [Act.put, pA_, pB_, pC_]
                refine bF_ 8 13 (fun K hK => ?_) (fun K hK => ?_)
                · go_simp
                  refine (open22_any r sp HJX.out.1.dok (by have := HJX.out.1.lim.1; have := HI1.out; omega) a1 a2 a3 _ qn HNB.out.1 q.b HNB.out.2.2 nw HNw.out.1 _ _ rfl rfl _ (HJ12.out.1.doc.kept hB) (HJ12.out.2.2.2.kept hB)).mono ?_
                  rw [HG.out]
                  rintro e wq ⟨v3', x2, rfl, hv3, hR3, hRx2, bq⟩
                  obtain ⟨a2x, k2x, rfl, -⟩ := id hRx2
                  have hws := hB.size
                  replace hB := stepB hB bq
                  have hqs : wq.heap.size ≤ wq.heap.size := Nat.le_refl _
                  try replace hM := BlkAt.kept hM bq
                  refine hK.out _ _ hB ?_
                  clear hK K
                  try simp only [Act.put, pA_, pB_, pC_]
                  refine bU_ hB 9 rfl ⟨_, by intro W hW; go_simp <;> with_reducible rfl, ?_⟩
                  try simp only [Act.put, pA_, pB_, pC_]
                  refine bU_ hB 10 rfl ⟨_, by intro W hW; go_simp <;> with_reducible rfl, ?_⟩
                  try simp only [Act.put, pA_, pB_, pC_]
                  refine bU_ hB 11 rfl ⟨_, by intro W hW; go_simp <;> with_reducible rfl, ?_⟩
                  try simp only [Act.put, pA_, pB_, pC_]
                  refine bU_ hB 12 rfl ⟨_, by intro W hW; go_simp <;> with_reducible rfl, ?_⟩
                  try simp only [Act.put, pA_, pB_, pC_]
                  refine bD_ 13 fun K hK => ?_
                  refine wp_alloc_p22 hB 50 rfl zss (alloc_sz _) ?_
                  intro gz wN hM hge hBA hBc hge2
                  replace hB := hBA
                  have hzl := hM.lt
                  try replace hRx2 := Rd.kept hRx2 hBc
                  try replace hR3 := RdI.kept hR3 hBc
                  try replace hqs := Nat.le_trans hqs hBc.size
                  refine hK.out _ _ hB ?_
                  clear hK K
                  try simp only [Act.put, pA_, pB_, pC_]
                  refine bD_ 14 fun K hK => ?_
                  have hne : ∀ b, v3'.ownBlock = some b → ¬ b = gz := by
                    intro b hb
                    rcases hv3 with e | h
                    · rw [e] at hb
                      have := (HJ12.out.1.ap.all b hb).2.2.2.2.2
                      omega
                    · have := h b hb
                      omega
                  refine wp_store_part 50 _ _ rfl rfl (ssC sp' a1 a2 v3') rfl [] zss [] (ssC sp' a1 a2 v3') hM (by rfl) (by simp) rfl rfl info_ss (ssC_one (HSk.out _ v3' (HJ12.out.1.doc.kept hB) hR3)) ?_
                  intro wS hMS hwS
                  replace hB := hwS.below _ _ hge hB
                  replace hRx2 := hRx2.past16 hM zss_no8 (Chg.of_wrote hwS)
                  replace hR3 := hR3.chg22 (Chg.of_wrote hwS) hne
                  have hqs2 := Nat.le_trans hqs (Chg.of_wrote hwS).size
                  have hap : Apx gk go gS (.slice an15 m cn15) (.slice av16 m cv16) v3' wS := ⟨fun b hb => by
                    rcases hv3 with e | h
                    · rw [e] at hb
                      obtain ⟨e1, e2, e3, e4, e5, e6⟩ := HJ12.out.1.ap.all b hb
                      exact ⟨e1, e2, e3, e4, e5, Nat.lt_of_lt_of_le e6 hB.size⟩
                    · obtain ⟨e1, e2⟩ := h b hb
                      have f1 := HJ12.out.1.mine.lt
                      have f2 := HJ12.out.1.other.lt
                      have f3 := HJ12.out.1.ars.lt
                      exact ⟨by omega, by omega, by omega, fun h2 => by have := (HJ12.out.1.num.lt b h2).2; omega, fun h2 => by have := (HJ12.out.1.box.lt b h2).2; omega, by omega⟩⟩
                  refine hK.out _ _ hB ?_
                  clear hK K
                  try simp only [Act.put, pA_, pB_, pC_]
                  refine bU_ hB 15 rfl ⟨_, by intro W hW; go_simp <;> with_reducible rfl, ?_⟩
                  try simp only [Act.put, pA_, pB_, pC_]
                  refine bU_ hB 16 rfl ⟨_, by intro W hW; go_simp <;> with_reducible rfl, ?_⟩
                  try simp only [Act.put, pA_, pB_, pC_]
                  refine wpB_done (by kernel_rfl) ?_
                  have HE : Hid (BlkAt gz 50 (ssC sp' a1 a2 v3') wS ∧ Rd wS (.slice a2x bx.length k2x) bx ∧ SsR wS sp' a1 a2 v3' ∧ Apx gk go gS (.slice an15 m cn15) (.slice av16 m cv16) v3' wS ∧ Below w12.heap.size w12 wS) := ⟨hMS, hRx2, HSk.out _ v3' (HJ12.out.1.doc.kept hB) hR3, hap, hB⟩
                  clear hMS hRx2 hB hM hwS hR3 hap hqs2 hne
                  go_wp2_with fail
                  go_meet
                  exact ⟨gz, a2x, k2x, v3', rfl, rfl, rfl, HE⟩
                · refine wp_alloc_p22 hB 50 rfl zss (alloc_sz _) ?_
                  intro gz wN hM hge hBA hBc hge2
                  replace hB := hBA
                  have hzl := hM.lt
                  try replace hRx2 := Rd.kept hRx2 hBc
                  try replace hR3 := RdI.kept hR3 hBc
                  try replace hqs := Nat.le_trans hqs hBc.size
                  refine hK.out _ _ hB ?_
                  clear hK K
                  try simp only [Act.put, pA_, pB_, pC_]
                  refine bD_ 8 fun K hK => ?_
                  go_simp
                  refine (open22_any r sp HJX.out.1.dok (by have := HJX.out.1.lim.1; have := HI1.out; omega) a1 a2 a3 _ qn HNB.out.1 q.b HNB.out.2.2 nw HNw.out.1 _ _ rfl rfl _ (HJ12.out.1.doc.kept hB) (HJ12.out.2.2.2.kept hB)).mono ?_
                  rw [HG.out]
                  rintro e wq ⟨v3', x2, rfl, hv3, hR3, hRx2, bq⟩
                  obtain ⟨a2x, k2x, rfl, -⟩ := id hRx2
                  have hws := hB.size
                  replace hB := stepB hB bq
                  have hqs : wq.heap.size ≤ wq.heap.size := Nat.le_refl _
                  try replace hM := BlkAt.kept hM bq
                  refine hK.out _ _ hB ?_
                  clear hK K
                  try simp only [Act.put, pA_, pB_, pC_]
                  refine bU_ hB 9 rfl ⟨_, by intro W hW; go_simp <;> with_reducible rfl, ?_⟩
                  try simp only [Act.put, pA_, pB_, pC_]
                  refine bU_ hB 10 rfl ⟨_, by intro W hW; go_simp <;> with_reducible rfl, ?_⟩
                  try simp only [Act.put, pA_, pB_, pC_]
                  refine bU_ hB 11 rfl ⟨_, by intro W hW; go_simp <;> with_reducible rfl, ?_⟩
                  try simp only [Act.put, pA_, pB_, pC_]
                  refine bU_ hB 12 rfl ⟨_, by intro W hW; go_simp <;> with_reducible rfl, ?_⟩
                  try simp only [Act.put, pA_, pB_, pC_]
                  refine bD_ 14 fun K hK => ?_
                  have hne : ∀ b, v3'.ownBlock = some b → ¬ b = gz := by
                    intro b hb
                    rcases hv3 with e | h
                    · rw [e] at hb
                      have := (HJ12.out.1.ap.all b hb).2.2.2.2.2
                      omega
                    · have := h b hb
                      omega
                  refine wp_store_part 50 _ _ rfl rfl (ssC sp' a1 a2 v3') rfl [] zss [] (ssC sp' a1 a2 v3') hM (by rfl) (by simp) rfl rfl info_ss (ssC_one (HSk.out _ v3' (HJ12.out.1.doc.kept hB) hR3)) ?_
                  intro wS hMS hwS
                  replace hB := hwS.below _ _ hge hB
                  replace hRx2 := hRx2.past16 hM zss_no8 (Chg.of_wrote hwS)
                  replace hR3 := hR3.chg22 (Chg.of_wrote hwS) hne
                  have hqs2 := Nat.le_trans hqs (Chg.of_wrote hwS).size
                  have hap : Apx gk go gS (.slice an15 m cn15) (.slice av16 m cv16) v3' wS := ⟨fun b hb => by
                    rcases hv3 with e | h
                    · rw [e] at hb
                      obtain ⟨e1, e2, e3, e4, e5, e6⟩ := HJ12.out.1.ap.all b hb
                      exact ⟨e1, e2, e3, e4, e5, Nat.lt_of_lt_of_le e6 hB.size⟩
                    · obtain ⟨e1, e2⟩ := h b hb
                      have f1 := HJ12.out.1.mine.lt
                      have f2 := HJ12.out.1.other.lt
                      have f3 := HJ12.out.1.ars.lt
                      exact ⟨by omega, by omega, by omega, fun h2 => by have := (HJ12.out.1.num.lt b h2).2; omega, fun h2 => by have := (HJ12.out.1.box.lt b h2).2; omega, by omega⟩⟩
                  refine hK.out _ _ hB ?_
                  clear hK K
                  try simp only [Act.put, pA_, pB_, pC_]
                  refine bU_ hB 15 rfl ⟨_, by intro W hW; go_simp <;> with_reducible rfl, ?_⟩
                  try simp only [Act.put, pA_, pB_, pC_]
                  refine bU_ hB 16 rfl ⟨_, by intro W hW; go_simp <;> with_reducible rfl, ?_⟩
                  try simp only [Act.put, pA_, pB_, pC_]
                  refine wpB_done (by kernel_rfl) ?_
                  have HE : Hid (BlkAt gz 50 (ssC sp' a1 a2 v3') wS ∧ Rd wS (.slice a2x bx.length k2x) bx ∧ SsR wS sp' a1 a2 v3' ∧ Apx gk go gS (.slice an15 m cn15) (.slice av16 m cv16) v3' wS ∧ Below w12.heap.size w12 wS) := ⟨hMS, hRx2, HSk.out _ v3' (HJ12.out.1.doc.kept hB) hR3, hap, hB⟩
                  clear hMS hRx2 hB hM hwS hR3 hap hqs2 hne
                  go_wp2_with fail
                  go_meet
                  exact ⟨gz, a2x, k2x, v3', rfl, rfl, rfl, HE⟩
              case rest =>
              obtain ⟨gz, a2x, k2x, v3', rfl, rfl, rfl, HZ⟩ := hcut
              rename World => w13
              have HJ13 : Hid (PlX w gR gX gS X gk go r sp' sp so a1 a2 a3 b1 b2 b3 (.slice an15 m cn15) (.slice av16 m cv16) ns bs i w13 ∧ BlkAt ga 54 (asL q (.slice aq Lq cq)) w13 ∧ Rd w13 (.slice ax bx.length kx) bx) := ⟨HJ12.out.1.kept HZ.out.2.2.2.2, HJ12.out.2.1.kept HZ.out.2.2.2.2, HJ12.out.2.2.1.kept HZ.out.2.2.2.2⟩
              clear HJ12
              go_wp2_with (first | refine wpList_load_part rfl 50 _ rfl rfl [] (ssC sp' a1 a2 v3') [] HZ.out.1 (by simp) rfl Tryd.underlying50 rfl info_ss ?_ | refine wpList_store_part rfl 50 _ _ rfl rfl (ssC sp' a1 a2 v3') rfl (preS X so b1 b2 b3) (ssC sp a1 a2 a3) (postS X so b1 b2 b3) (arS X sp' so a1 a2 v3' b1 b2 b3) HJ13.out.1.ars rfl rfl (preS_len hX2) rfl info_ss (ssC_one HZ.out.2.2.1) ?_)
              intro w14 r14 hw14
              have hk14 : K8 w13 w14 := K8.blk HJ13.out.1.ars (arS_8 HJ13.out.1.doc HJ13.out.1.dother) (Chg.of_wrote hw14)
              have hcv1 := convS22 (HJ13.out.2.2.k8 hk14)
              have hcv2 := convS22 (HZ.out.2.1.k8 hk14)
              have HJ14 : Hid (PlX w gR gX gS X gk go r sp' sp' so a1 a2 v3' b1 b2 b3 (.slice an15 m cn15) (.slice av16 m cv16) ns bs (i + 1) w14 ∧ BlkAt ga 54 (asL q (.slice aq Lq cq)) w14 ∧ bs.length = ns.length ∧ ns.length ≤ i + 1) := ⟨HJ13.out.1.docs (Chg.of_wrote hw14) r14 HZ.out.2.2.1 HZ.out.2.2.2.1 HGl.out.2 HGl.out.1 (Nat.le_succ _), HJ13.out.2.1.wrote hw14 (blk_ne22 HJ13.out.2.1 HJ13.out.1.ars (by decide)), HJX.out.2.2.1, Nat.le_succ_of_le HJX.out.2.2.2⟩
              clear hk14 r14 hw14 HJ13 HZ
              go_wp2_with fail
              go_meet
              exact ⟨sp', v3', ns, bs, HJ14⟩
          have dz : decide ((0 : Int) < (Z : Int)) = true := decide_eq_true (by omega)
          have dzN : decide (0 < Z) = true := decide_eq_true (by omega)
          obtain ⟨P, hP⟩ : ∃ P, P = qn % 65536 := ⟨_, rfl⟩
          have eP : bits .and .u64 (qn : Int) 65535 = (P : Int) := by
            have := u64_and_nat qn 65535 HNw.out.2 (by decide)
            rw [show (65535 : Int) = ((65535 : Nat) : Int) from rfl, this, hP, show (65535 : Nat) = 2 ^ 16 - 1 from rfl, Nat.and_two_pow_sub_one_eq_mod]
          have wP : IntKind.i64.wrap (P : Int) = (P : Int) := IntWalk.i64_in _ (by omega)
          obtain ⟨x0, hx0⟩ : ∃ x : Nat, x = P % m := ⟨_, rfl⟩
          have hxm : x0 < m := by rw [hx0]; exact Nat.mod_lt _ (by omega)
          have t1 : ((P : Nat) : Int).tmod (m : Int) = (x0 : Int) := by rw [Int.tmod_eq_emod_of_nonneg (by omega), hx0]; exact (Int.natCast_emod P m).symm
          have t2 : ((P : Nat) : Int) % (m : Int) = (x0 : Int) := by rw [hx0]; exact (Int.natCast_emod P m).symm
          have hmz : ¬ (m : Int) = 0 := by omega
          have hmzN : ¬ m = 0 := hm0
          have hmzd : ((m : Int) == 0) = false := by rw [beq_eq_false_iff_ne]; omega
          have hxw : IntKind.i64.wrap (x0 : Int) = (x0 : Int) := IntWalk.i64_in _ (by have := HmL.out.2.2.1; omega)
          have hxmI : (x0 : Int) < (m : Int) := by omega
          obtain ⟨gn, kn, en, -, -, hcn⟩ := HJX.out.1.num.at (i := x0) (by rw [nW_length, ← HmL.out.2.1]; exact hxm)
          simp only [Value.slice.injEq] at en
          obtain ⟨rfl, -, -⟩ := en
          rw [nW_getD (by rw [← HmL.out.2.1]; exact hxm)] at hcn
          have hn64 : ns.getD x0 0 < 18446744073709551616 := by
            have h1 : x0 < ns.length := by rw [← HmL.out.2.1]; exact hxm
            have h2 : ns.getD x0 0 = ns[x0] := by simp [h1]
            rw [h2]
            exact HJX.out.1.nlt _ (List.getElem_mem h1)
          obtain ⟨gb, kb', eb, -, -, hcb⟩ := HJX.out.1.box.at (i := x0) (by rw [← HmL.out.1]; exact hxm)
          simp only [Value.slice.injEq] at eb
          obtain ⟨rfl, -, -⟩ := eb
          obtain ⟨bb, hbl, ⟨av, cv, ev⟩, hrb⟩ := HJX.out.1.row x0 (by rw [← HmL.out.1]; exact hxm)
          rw [ev] at hcb hrb
          generalize ns.getD x0 0 = n0 at hcn hn64
          obtain ⟨Lv, hLv⟩ : ∃ n, n = bb.length := ⟨_, rfl⟩
          rw [← hLv] at hcb hrb
          have HNB : Hid (n0 < 18446744073709551616 ∧ Rd w11 (.slice av Lv cv) bb ∧ bb.length ≤ 3000000) := ⟨hn64, hrb, hbl⟩
          clear hP hx0 hxm hn64 hbl ev hrb hLv hm0 hz0
          as_aux_lemma =>
            obtain ⟨G, hG⟩ : ∃ G, G = ssO r sp n0 bb nw := ⟨_, rfl⟩
            have HSk : Hid (∀ W v3', SsR W sp a1 a2 a3 → RdI .u64 W v3' (nU G.1.came) → SsR W G.1 a1 a2 v3') := fun W v3' h hc => by rw [hG] at hc ⊢; exact h.open22 hc
            have HGl : Hid (G.1.came.length ≤ i + 1 ∧ SesW G.1) := by
              show _ ∧ _
              rw [hG]
              exact ⟨by have := (ssO_keep r sp n0 bb nw).2.2; have := HJX.out.1.lim.1; omega, ssO_ok HJX.out.1.dok HNB.out.1⟩
            have HG : Hid (ssO r sp n0 bb nw = G) := hG.symm
            clear hG
            obtain ⟨sp', bx, er⟩ := G
            go_wp2_with fail
            have hdr : Below w11.heap.size w11 w11.drew := (Below.refl _ w11).drew
            have HD : Hid (PlX w gR gX gS X gk go r sp sp so a1 a2 a3 b1 b2 b3 (.slice (some ⟨gn, 0, none⟩) m cn15) (.slice (some ⟨gb, 0, none⟩) m cv16) ns bs i w11.drew ∧ BlkAt ga 54 (asL q (.slice aq Lq cq)) w11.drew ∧ Rd w11.drew (.slice av Lv cv) bb) := ⟨HJX.out.1.kept hdr, HJX.out.2.1.kept hdr, HNB.out.2.1.kept hdr⟩
            have hS : w11.drew.cell? ⟨gX, X, none⟩ = some (.pointer (some ⟨gk, 0, none⟩)) ∧ w11.drew.cell? ⟨ga, 3, none⟩ = some (.int .u64 (nw : Int)) := ⟨HD.out.1.cellX hX2, (HAc.out _ HD.out.2.1).2.2.2⟩
            clear hdr
            refine wpS_begin (fun W => W.cell? ⟨gX, X, none⟩ = some (.pointer (some ⟨gk, 0, none⟩)) ∧ W.cell? ⟨ga, 3, none⟩ = some (.int .u64 (nw : Int))) (by kernel_rfl) ?_
            refine sU_ hS 0 rfl ⟨_, by intro W hW; go_simp <;> with_reducible rfl, ?_⟩
            try simp only [Act.put, pA_, pB_, pC_]
            refine sU_ hS 1 rfl ⟨_, by intro W hW; go_simp <;> with_reducible rfl, ?_⟩
            try simp only [Act.put, pA_, pB_, pC_]
            refine sU_ hS 2 rfl ⟨_, by intro W hW; have cW := hW.1; go_simp <;> with_reducible rfl, ?_⟩
            try simp only [Act.put, pA_, pB_, pC_]
            refine sU_ hS 3 rfl ⟨_, by intro W hW; go_simp <;> with_reducible rfl, ?_⟩
            try simp only [Act.put, pA_, pB_, pC_]
            refine sU_ hS 4 rfl ⟨_, by intro W hW; go_simp <;> with_reducible rfl, ?_⟩
            try simp only [Act.put, pA_, pB_, pC_]
            refine sU_ hS 5 rfl ⟨_, by intro W hW; go_simp <;> with_reducible rfl, ?_⟩
            try simp only [Act.put, pA_, pB_, pC_]
            refine sU_ hS 6 rfl ⟨_, by intro W hW; have cW := hW.2; go_simp <;> with_reducible rfl, ?_⟩
            try simp only [Act.put, pA_, pB_, pC_]
            refine sD_ 7 fun K hK => ?_
            go_simp
            refine (zopen_any gk r sp n0 HNB.out.1 _ bb HNB.out.2.2 nw HNw.out.1 _ HD.out.1.mine HD.out.2.2 (HP.out.1.kept HD.out.1.below) (HP.out.2.kept HD.out.1.below)).mono ?_
            rw [HG.out]
            rintro e w12 ⟨x, rfl, hOx, hSx, hCx⟩
            obtain ⟨cm, hcm, -⟩ := HD.out.1.mine.blk
            have HJ12 : Hid (PlX w gR gX gS X gk go r sp' sp so a1 a2 a3 b1 b2 b3 (.slice (some ⟨gn, 0, none⟩) m cn15) (.slice (some ⟨gb, 0, none⟩) m cv16) ns bs i w12 ∧ BlkAt ga 54 (asL q (.slice aq Lq cq)) w12 ∧ Rd w12 x bx ∧ Rd w12 (.slice av Lv cv) bb) := ⟨HD.out.1.prog hCx hSx, HD.out.2.1.chg hCx (blk_ne22 HD.out.2.1 hcm (by decide)), hOx.rd, HD.out.2.2.k8 (HD.out.1.mine.k8 hCx)⟩
            obtain ⟨ax, kx, rfl, -⟩ := id hOx.rd
            have hS : w12.cell? ⟨gX, X, none⟩ = some (.pointer (some ⟨gk, 0, none⟩)) ∧ w12.cell? ⟨ga, 3, none⟩ = some (.int .u64 (nw : Int)) := ⟨HJ12.out.1.cellX hX2, (HAc.out _ HJ12.out.2.1).2.2.2⟩
            clear hOx hSx hCx hcm
            refine hK.out _ _ hS ?_
            clear hK K
            try simp only [Act.put, pA_, pB_, pC_]
            refine sU_ hS 8 rfl ⟨_, by intro W hW; go_simp <;> with_reducible rfl, ?_⟩
            try simp only [Act.put, pA_, pB_, pC_]
            refine sU_ hS 9 rfl ⟨_, by intro W hW; go_simp <;> with_reducible rfl, ?_⟩
            try simp only [Act.put, pA_, pB_, pC_]
            refine sU_ hS 10 rfl ⟨_, by intro W hW; go_simp <;> with_reducible rfl, ?_⟩
            try simp only [Act.put, pA_, pB_, pC_]
            refine sU_ hS 11 rfl ⟨_, by intro W hW; go_simp <;> with_reducible rfl, ?_⟩
            try simp only [Act.put, pA_, pB_, pC_]
            refine sU_ hS 12 rfl ⟨_, by intro W hW; go_simp <;> with_reducible rfl, ?_⟩
            try simp only [Act.put, pA_, pB_, pC_]
            refine wpS_done (by kernel_rfl) ?_
            clear hS HD c0 c1 c2 c3
            go_upto_region 33 with fail
            go_cut [32, 33, 34] (fun v x z wx => ∃ (gz : Nat) (a2x : Option Addr) (k2x : Nat) (v3' : Value), v = .pointer (some ⟨gz, 0, none⟩) ∧ x = .slice a2x bx.length k2x ∧ z = .int .i64 er ∧ Hid (BlkAt gz 50 (ssC sp' a1 a2 v3') wx ∧ Rd wx (.slice a2x bx.length k2x) bx ∧ SsR wx sp' a1 a2 v3' ∧ Apx gk go gS (.slice (some ⟨gn, 0, none⟩) m cn15) (.slice (some ⟨gb, 0, none⟩) m cv16) v3' wx ∧ Below w12.heap.size w12 wx))
            case first =>
              have hB : Below w12.heap.size w12 w12.drew := (Below.refl _ _).drew
              refine wpB_begin (Below.refl w12.heap.size w12) (by kernel_rfl) ?_
              refine bU_ hB 0 rfl ⟨_, by intro W hW; refine Eq.trans (exec_load_part 27 _ (by rfl) (by rfl) [] (rlC r) [] HJ12.out.1.rul hW (by rfl) rfl Tryd.underlying27 rfl info_r22) ?_; with_reducible rfl, ?_⟩
              try simp only [Act.put, pA_, pB_, pC_]
              refine bU_ hB 1 rfl ⟨_, by intro W hW; go_simp <;> with_reducible rfl, ?_⟩
              try simp only [Act.put, pA_, pB_, pC_]
              refine bU_ hB 2 rfl ⟨_, by intro W hW; go_simp <;> with_reducible rfl, ?_⟩
              try simp only [Act.put, pA_, pB_, pC_]
              refine bU_ hB 3 rfl ⟨_, by intro W hW; refine Eq.trans (exec_load_part 50 _ (by rfl) (by rfl) (preS X so b1 b2 b3) (ssC sp a1 a2 a3) (postS X so b1 b2 b3) HJ12.out.1.ars hW (by rfl) (preS_len hX2) Tryd.underlying50 rfl info_ss) ?_; with_reducible rfl, ?_⟩
              try simp only [Act.put, pA_, pB_, pC_]
              refine bU_ hB 4 rfl ⟨_, by intro W hW; go_simp <;> with_reducible rfl, ?_⟩
              try simp only [Act.put, pA_, pB_, pC_]
              refine bU_ hB 5 rfl ⟨_, by intro W hW; go_simp <;> with_reducible rfl, ?_⟩
              try simp only [Act.put, pA_, pB_, pC_]
              refine bU_ hB 6 rfl ⟨_, by intro W hW; go_simp <;> with_reducible rfl, ?_⟩
              try simp only [Act.put, pA_, pB_, pC_]
              refine bU_ hB 7 rfl ⟨_, by intro W hW; have cW : W.cell? ⟨ga, 3, none⟩ = some (.int .u64 (nw : Int)) := (HAc.out _ (HJ12.out.2.1.kept hW)).2.2.2; go_simp <;> with_reducible rfl, ?_⟩
              try simp only [Act.put, pA_, pB_, pC_]
              refine bF_ 8 13 (fun K hK => ?_) (fun K hK => ?_)
              · go_simp
                refine (open22_any r sp HJX.out.1.dok (by have := HJX.out.1.lim.1; have := HI1.out; omega) a1 a2 a3 _ n0 HNB.out.1 bb HNB.out.2.2 nw HNw.out.1 _ _ rfl rfl _ (HJ12.out.1.doc.kept hB) (HJ12.out.2.2.2.kept hB)).mono ?_
                rw [HG.out]
                rintro e wq ⟨v3', x2, rfl, hv3, hR3, hRx2, bq⟩
                obtain ⟨a2x, k2x, rfl, -⟩ := id hRx2
                have hws := hB.size
                replace hB := stepB hB bq
                have hqs : wq.heap.size ≤ wq.heap.size := Nat.le_refl _
                try replace hM := BlkAt.kept hM bq
                refine hK.out _ _ hB ?_
                clear hK K
                try simp only [Act.put, pA_, pB_, pC_]
                refine bU_ hB 9 rfl ⟨_, by intro W hW; go_simp <;> with_reducible rfl, ?_⟩
                try simp only [Act.put, pA_, pB_, pC_]
                refine bU_ hB 10 rfl ⟨_, by intro W hW; go_simp <;> with_reducible rfl, ?_⟩
                try simp only [Act.put, pA_, pB_, pC_]
                refine bU_ hB 11 rfl ⟨_, by intro W hW; go_simp <;> with_reducible rfl, ?_⟩
                try simp only [Act.put, pA_, pB_, pC_]
                refine bU_ hB 12 rfl ⟨_, by intro W hW; go_simp <;> with_reducible rfl, ?_⟩
                try simp only [Act.put, pA_, pB_, pC_]
                refine bD_ 13 fun K hK => ?_
                refine wp_alloc_p22 hB 50 rfl zss (alloc_sz _) ?_
                intro gz wN hM hge hBA hBc hge2
                replace hB := hBA
                have hzl := hM.lt
                try replace hRx2 := Rd.kept hRx2 hBc
                try replace hR3 := RdI.kept hR3 hBc
                try replace hqs := Nat.le_trans hqs hBc.size
                refine hK.out _ _ hB ?_
                clear hK K
                try simp only [Act.put, pA_, pB_, pC_]
                refine bD_ 14 fun K hK => ?_
                have hne : ∀ b, v3'.ownBlock = some b → ¬ b = gz := by
                  intro b hb
                  rcases hv3 with e | h
                  · rw [e] at hb
                    have := (HJ12.out.1.ap.all b hb).2.2.2.2.2
                    omega
                  · have := h b hb
                    omega
                refine wp_store_part 50 _ _ rfl rfl (ssC sp' a1 a2 v3') rfl [] zss [] (ssC sp' a1 a2 v3') hM (by rfl) (by simp) rfl rfl info_ss (ssC_one (HSk.out _ v3' (HJ12.out.1.doc.kept hB) hR3)) ?_
                intro wS hMS hwS
                replace hB := hwS.below _ _ hge hB
                replace hRx2 := hRx2.past16 hM zss_no8 (Chg.of_wrote hwS)
                replace hR3 := hR3.chg22 (Chg.of_wrote hwS) hne
                have hqs2 := Nat.le_trans hqs (Chg.of_wrote hwS).size
                have hap : Apx gk go gS (.slice (some ⟨gn, 0, none⟩) m cn15) (.slice (some ⟨gb, 0, none⟩) m cv16) v3' wS := ⟨fun b hb => by
                  rcases hv3 with e | h
                  · rw [e] at hb
                    obtain ⟨e1, e2, e3, e4, e5, e6⟩ := HJ12.out.1.ap.all b hb
                    exact ⟨e1, e2, e3, e4, e5, Nat.lt_of_lt_of_le e6 hB.size⟩
                  · obtain ⟨e1, e2⟩ := h b hb
                    have f1 := HJ12.out.1.mine.lt
                    have f2 := HJ12.out.1.other.lt
                    have f3 := HJ12.out.1.ars.lt
                    exact ⟨by omega, by omega, by omega, fun h2 => by have := (HJ12.out.1.num.lt b h2).2; omega, fun h2 => by have := (HJ12.out.1.box.lt b h2).2; omega, by omega⟩⟩
                refine hK.out _ _ hB ?_
                clear hK K
                try simp only [Act.put, pA_, pB_, pC_]
                refine bU_ hB 15 rfl ⟨_, by intro W hW; go_simp <;> with_reducible rfl, ?_⟩
                try simp only [Act.put, pA_, pB_, pC_]
                refine bU_ hB 16 rfl ⟨_, by intro W hW; go_simp <;> with_reducible rfl, ?_⟩
                try simp only [Act.put, pA_, pB_, pC_]
                refine wpB_done (by kernel_rfl) ?_
                have HE : Hid (BlkAt gz 50 (ssC sp' a1 a2 v3') wS ∧ Rd wS (.slice a2x bx.length k2x) bx ∧ SsR wS sp' a1 a2 v3' ∧ Apx gk go gS (.slice (some ⟨gn, 0, none⟩) m cn15) (.slice (some ⟨gb, 0, none⟩) m cv16) v3' wS ∧ Below w12.heap.size w12 wS) := ⟨hMS, hRx2, HSk.out _ v3' (HJ12.out.1.doc.kept hB) hR3, hap, hB⟩
                clear hMS hRx2 hB hM hwS hR3 hap hqs2 hne
                go_wp2_with fail
                go_meet
                exact ⟨gz, a2x, k2x, v3', rfl, rfl, rfl, HE⟩
              · refine wp_alloc_p22 hB 50 rfl zss (alloc_sz _) ?_
                intro gz wN hM hge hBA hBc hge2
                replace hB := hBA
                have hzl := hM.lt
                try replace hRx2 := Rd.kept hRx2 hBc
                try replace hR3 := RdI.kept hR3 hBc
                try replace hqs := Nat.le_trans hqs hBc.size
                refine hK.out _ _ hB ?_
                clear hK K
                try simp only [Act.put, pA_, pB_, pC_]
                refine bD_ 8 fun K hK => ?_
                go_simp
                refine (open22_any r sp HJX.out.1.dok (by have := HJX.out.1.lim.1; have := HI1.out; omega) a1 a2 a3 _ n0 HNB.out.1 bb HNB.out.2.2 nw HNw.out.1 _ _ rfl rfl _ (HJ12.out.1.doc.kept hB) (HJ12.out.2.2.2.kept hB)).mono ?_
                rw [HG.out]
                rintro e wq ⟨v3', x2, rfl, hv3, hR3, hRx2, bq⟩
                obtain ⟨a2x, k2x, rfl, -⟩ := id hRx2
                have hws := hB.size
                replace hB := stepB hB bq
                have hqs : wq.heap.size ≤ wq.heap.size := Nat.le_refl _
                try replace hM := BlkAt.kept hM bq
                refine hK.out _ _ hB ?_
                clear hK K
                try simp only [Act.put, pA_, pB_, pC_]
                refine bU_ hB 9 rfl ⟨_, by intro W hW; go_simp <;> with_reducible rfl, ?_⟩
                try simp only [Act.put, pA_, pB_, pC_]
                refine bU_ hB 10 rfl ⟨_, by intro W hW; go_simp <;> with_reducible rfl, ?_⟩
                try simp only [Act.put, pA_, pB_, pC_]
                refine bU_ hB 11 rfl ⟨_, by intro W hW; go_simp <;> with_reducible rfl, ?_⟩
                try simp only [Act.put, pA_, pB_, pC_]
                refine bU_ hB 12 rfl ⟨_, by intro W hW; go_simp <;> with_reducible rfl, ?_⟩
                try simp only [Act.put, pA_, pB_, pC_]
                refine bD_ 14 fun K hK => ?_
                have hne : ∀ b, v3'.ownBlock = some b → ¬ b = gz := by
                  intro b hb
                  rcases hv3 with e | h
                  · rw [e] at hb
                    have := (HJ12.out.1.ap.all b hb).2.2.2.2.2
                    omega
                  · have := h b hb
                    omega
                refine wp_store_part 50 _ _ rfl rfl (ssC sp' a1 a2 v3') rfl [] zss [] (ssC sp' a1 a2 v3') hM (by rfl) (by simp) rfl rfl info_ss (ssC_one (HSk.out _ v3' (HJ12.out.1.doc.kept hB) hR3)) ?_
                intro wS hMS hwS
                replace hB := hwS.below _ _ hge hB
                replace hRx2 := hRx2.past16 hM zss_no8 (Chg.of_wrote hwS)
                replace hR3 := hR3.chg22 (Chg.of_wrote hwS) hne
                have hqs2 := Nat.le_trans hqs (Chg.of_wrote hwS).size
                have hap : Apx gk go gS (.slice (some ⟨gn, 0, none⟩) m cn15) (.slice (some ⟨gb, 0, none⟩) m cv16) v3' wS := ⟨fun b hb => by
                  rcases hv3 with e | h
                  · rw [e] at hb
                    obtain ⟨e1, e2, e3, e4, e5, e6⟩ := HJ12.out.1.ap.all b hb
                    exact ⟨e1, e2, e3, e4, e5, Nat.lt_of_lt_of_le e6 hB.size⟩
                  · obtain ⟨e1, e2⟩ := h b hb
                    have f1 := HJ12.out.1.mine.lt
                    have f2 := HJ12.out.1.other.lt
                    have f3 := HJ12.out.1.ars.lt
                    exact ⟨by omega, by omega, by omega, fun h2 => by have := (HJ12.out.1.num.lt b h2).2; omega, fun h2 => by have := (HJ12.out.1.box.lt b h2).2; omega, by omega⟩⟩
                refine hK.out _ _ hB ?_
                clear hK K
                try simp only [Act.put, pA_, pB_, pC_]
                refine bU_ hB 15 rfl ⟨_, by intro W hW; go_simp <;> with_reducible rfl, ?_⟩
                try simp only [Act.put, pA_, pB_, pC_]
                refine bU_ hB 16 rfl ⟨_, by intro W hW; go_simp <;> with_reducible rfl, ?_⟩
                try simp only [Act.put, pA_, pB_, pC_]
                refine wpB_done (by kernel_rfl) ?_
                have HE : Hid (BlkAt gz 50 (ssC sp' a1 a2 v3') wS ∧ Rd wS (.slice a2x bx.length k2x) bx ∧ SsR wS sp' a1 a2 v3' ∧ Apx gk go gS (.slice (some ⟨gn, 0, none⟩) m cn15) (.slice (some ⟨gb, 0, none⟩) m cv16) v3' wS ∧ Below w12.heap.size w12 wS) := ⟨hMS, hRx2, HSk.out _ v3' (HJ12.out.1.doc.kept hB) hR3, hap, hB⟩
                clear hMS hRx2 hB hM hwS hR3 hap hqs2 hne
                go_wp2_with fail
                go_meet
                exact ⟨gz, a2x, k2x, v3', rfl, rfl, rfl, HE⟩
            case rest =>
            obtain ⟨gz, a2x, k2x, v3', rfl, rfl, rfl, HZ⟩ := hcut
            rename World => w13
            have HJ13 : Hid (PlX w gR gX gS X gk go r sp' sp so a1 a2 a3 b1 b2 b3 (.slice (some ⟨gn, 0, none⟩) m cn15) (.slice (some ⟨gb, 0, none⟩) m cv16) ns bs i w13 ∧ BlkAt ga 54 (asL q (.slice aq Lq cq)) w13 ∧ Rd w13 (.slice ax bx.length kx) bx) := ⟨HJ12.out.1.kept HZ.out.2.2.2.2, HJ12.out.2.1.kept HZ.out.2.2.2.2, HJ12.out.2.2.1.kept HZ.out.2.2.2.2⟩
            clear HJ12
            go_wp2_with (first | refine wpList_load_part rfl 50 _ rfl rfl [] (ssC sp' a1 a2 v3') [] HZ.out.1 (by simp) rfl Tryd.underlying50 rfl info_ss ?_ | refine wpList_store_part rfl 50 _ _ rfl rfl (ssC sp' a1 a2 v3') rfl (preS X so b1 b2 b3) (ssC sp a1 a2 a3) (postS X so b1 b2 b3) (arS X sp' so a1 a2 v3' b1 b2 b3) HJ13.out.1.ars rfl rfl (preS_len hX2) rfl info_ss (ssC_one HZ.out.2.2.1) ?_)
            intro w14 r14 hw14
            have hk14 : K8 w13 w14 := K8.blk HJ13.out.1.ars (arS_8 HJ13.out.1.doc HJ13.out.1.dother) (Chg.of_wrote hw14)
            have hcv1 := convS22 (HJ13.out.2.2.k8 hk14)
            have hcv2 := convS22 (HZ.out.2.1.k8 hk14)
            have HJ14 : Hid (PlX w gR gX gS X gk go r sp' sp' so a1 a2 v3' b1 b2 b3 (.slice (some ⟨gn, 0, none⟩) m cn15) (.slice (some ⟨gb, 0, none⟩) m cv16) ns bs (i + 1) w14 ∧ BlkAt ga 54 (asL q (.slice aq Lq cq)) w14 ∧ bs.length = ns.length ∧ ns.length ≤ i + 1) := ⟨HJ13.out.1.docs (Chg.of_wrote hw14) r14 HZ.out.2.2.1 HZ.out.2.2.2.1 HGl.out.2 HGl.out.1 (Nat.le_succ _), HJ13.out.2.1.wrote hw14 (blk_ne22 HJ13.out.2.1 HJ13.out.1.ars (by decide)), HJX.out.2.2.1, Nat.le_succ_of_le HJX.out.2.2.2⟩
            clear hk14 r14 hw14 HJ13 HZ
            go_wp2_with fail
            go_meet
            exact ⟨sp', v3', ns, bs, HJ14⟩
    case rest =>
    as_aux_lemma =>
      obtain ⟨sp', a3', ns', bs', HJc⟩ := hcut
      rename World => wz
      have HCx : Hid (∀ W, Below wz.drew.heap.size wz.drew W → W.cell? ⟨gX, X, none⟩ = some (.pointer (some ⟨gk, 0, none⟩)) ∧ W.cell? ⟨gS, X * 7 + 5, none⟩ = some (.int .u64 (sp'.sent : Int)) ∧ W.cell? ⟨ga, 3, none⟩ = some (.int .u64 (nw : Int)) ∧ SnP gk r sp' W) := fun W hW => by
        have h1 := HJc.out.1.kept (stepB (Below.refl _ wz).drew hW)
        have h2 := HJc.out.2.1.kept (stepB (Below.refl _ wz).drew hW)
        exact ⟨h1.cellX hX2, h1.cellN hX2, (HAc.out _ h2).2.2.2, h1.mine⟩
      have HRu : Hid (BlkAt gR 27 (rlC r) wz.drew ∧ BlkAt gS 51 (arS X sp' so a1 a2 a3' b1 b2 b3) wz.drew) := ⟨HJc.out.1.rul.drew, HJc.out.1.ars.drew⟩
      obtain ⟨B1, hB1⟩ : ∃ B, B = rkB r sp' nw := ⟨_, rfl⟩
      obtain ⟨B2, hB2⟩ : ∃ B, B = exB r sp' nw := ⟨_, rfl⟩
      have HB1 : Hid (B1 = rkB r sp' nw) := hB1
      have HB2 : Hid (B2 = exB r sp' nw) := hB2
      clear hB1 hB2 c0 c1 c2 c3 HJX
      go_wp2_with fail
      refine wpG_begin (by kernel_rfl) ?_
      refine gU_ 0 rfl ⟨_, by intro W hW; go_simp <;> with_reducible rfl, ?_⟩
      try simp only [Act.put, pA_, pB_, pC_]
      refine gU_ 1 rfl ⟨_, by intro W hW; go_simp <;> with_reducible rfl, ?_⟩
      try simp only [Act.put, pA_, pB_, pC_]
      refine gU_ 2 rfl ⟨_, by intro W hW; have cW := (HCx.out W hW).1; go_simp <;> with_reducible rfl, ?_⟩
      try simp only [Act.put, pA_, pB_, pC_]
      refine gU_ 4 rfl ⟨_, by intro W hW; go_simp <;> with_reducible rfl, ?_⟩
      try simp only [Act.put, pA_, pB_, pC_]
      refine gU_ 5 rfl ⟨_, by intro W hW; go_simp <;> with_reducible rfl, ?_⟩
      try simp only [Act.put, pA_, pB_, pC_]
      refine gU_ 6 rfl ⟨_, by intro W hW; go_simp <;> with_reducible rfl, ?_⟩
      try simp only [Act.put, pA_, pB_, pC_]
      refine gU_ 7 rfl ⟨_, by intro W hW; have cW := (HCx.out W hW).2.1; go_simp <;> with_reducible rfl, ?_⟩
      try simp only [Act.put, pA_, pB_, pC_]
      refine gD_ 3 fun K hK => ?_
      go_simp
      refine (csent_any gk r sp' _ (HCx.out _ (Below.refl _ _)).2.2.2).mono ?_
      rintro e wa ⟨rfl, rfl⟩
      refine hK.out _ _ (Below.refl _ _) ?_
      clear hK K
      try simp only [Act.put, pA_, pB_, pC_]
      refine gU_ 8 rfl ⟨_, by intro W hW; go_simp <;> with_reducible rfl, ?_⟩
      try simp only [Act.put, pA_, pB_, pC_]
      refine gU_ 9 rfl ⟨_, by intro W hW; go_simp <;> with_reducible rfl, ?_⟩
      try simp only [Act.put, pA_, pB_, pC_]
      refine gU_ 10 rfl ⟨_, by intro W hW; go_simp <;> with_reducible rfl, ?_⟩
      try simp only [Act.put, pA_, pB_, pC_]
      refine gU_ 11 rfl ⟨_, by intro W hW; go_simp <;> with_reducible rfl, ?_⟩
      try simp only [Act.put, pA_, pB_, pC_]
      refine gU_ 12 rfl ⟨_, by intro W hW; have cW := (HCx.out W hW).1; go_simp <;> with_reducible rfl, ?_⟩
      try simp only [Act.put, pA_, pB_, pC_]
      refine gU_ 13 rfl ⟨_, by intro W hW; go_simp <;> with_reducible rfl, ?_⟩
      try simp only [Act.put, pA_, pB_, pC_]
      refine gU_ 14 rfl ⟨_, by intro W hW; have cW := (HCx.out W hW).2.2.1; go_simp <;> with_reducible rfl, ?_⟩
      try simp only [Act.put, pA_, pB_, pC_]
      refine gU_ 16 rfl ⟨_, by intro W hW; refine Eq.trans (exec_load_part 27 _ (by rfl) (by rfl) [] (rlC r) [] HRu.out.1 hW (by rfl) rfl Tryd.underlying27 rfl info_r22) ?_; with_reducible rfl, ?_⟩
      try simp only [Act.put, pA_, pB_, pC_]
      refine gU_ 17 rfl ⟨_, by intro W hW; go_simp <;> with_reducible rfl, ?_⟩
      try simp only [Act.put, pA_, pB_, pC_]
      refine gU_ 18 rfl ⟨_, by intro W hW; go_simp <;> with_reducible rfl, ?_⟩
      try simp only [Act.put, pA_, pB_, pC_]
      refine gU_ 19 rfl ⟨_, by intro W hW; refine Eq.trans (exec_load_part 50 _ (by rfl) (by rfl) (preS X so b1 b2 b3) (ssC sp' a1 a2 a3') (postS X so b1 b2 b3) HRu.out.2 hW (by rfl) (preS_len hX2) Tryd.underlying50 rfl info_ss) ?_; with_reducible rfl, ?_⟩
      try simp only [Act.put, pA_, pB_, pC_]
      refine gU_ 20 rfl ⟨_, by intro W hW; go_simp <;> with_reducible rfl, ?_⟩
      try simp only [Act.put, pA_, pB_, pC_]
      refine gU_ 21 rfl ⟨_, by intro W hW; have cW := (HCx.out W hW).2.2.1; go_simp <;> with_reducible rfl, ?_⟩
      try simp only [Act.put, pA_, pB_, pC_]
      refine gD_ 15 fun K hK => ?_
      go_simp
      refine (crekey_any gk r sp' nw HNw.out.1 _ (HCx.out _ (Below.refl _ _)).2.2.2).mono ?_
      rw [← HB1.out]
      rintro e wb ⟨rfl, bw1⟩
      refine hK.out _ _ bw1 ?_
      clear hK K
      try simp only [Act.put, pA_, pB_, pC_]
      refine gD_ 22 fun K hK => ?_
      go_simp
      refine (rekey22_any r sp' HJc.out.1.dok a1 a2 a3' nw HNw.out.1 _ _ rfl rfl _).mono ?_
      rw [← HB1.out]
      rintro e wc ⟨rfl, bw2⟩
      refine hK.out _ _ bw2 ?_
      clear hK K
      try simp only [Act.put, pA_, pB_, pC_]
      refine gU_ 23 rfl ⟨_, by intro W hW; go_simp <;> with_reducible rfl, ?_⟩
      try simp only [Act.put, pA_, pB_, pC_]
      refine gU_ 24 rfl ⟨_, by intro W hW; go_simp <;> with_reducible rfl, ?_⟩
      try simp only [Act.put, pA_, pB_, pC_]
      refine gU_ 25 rfl ⟨_, by intro W hW; go_simp <;> with_reducible rfl, ?_⟩
      try simp only [Act.put, pA_, pB_, pC_]
      refine gU_ 26 rfl ⟨_, by intro W hW; go_simp <;> with_reducible rfl, ?_⟩
      try simp only [Act.put, pA_, pB_, pC_]
      refine gU_ 27 rfl ⟨_, by intro W hW; go_simp <;> with_reducible rfl, ?_⟩
      try simp only [Act.put, pA_, pB_, pC_]
      refine gU_ 28 rfl ⟨_, by intro W hW; have cW := (HCx.out W (stepB (stepB bw1 bw2) hW)).1; go_simp <;> with_reducible rfl, ?_⟩
      try simp only [Act.put, pA_, pB_, pC_]
      refine gU_ 29 rfl ⟨_, by intro W hW; go_simp <;> with_reducible rfl, ?_⟩
      try simp only [Act.put, pA_, pB_, pC_]
      refine gU_ 30 rfl ⟨_, by intro W hW; have cW := (HCx.out W (stepB (stepB bw1 bw2) hW)).2.2.1; go_simp <;> with_reducible rfl, ?_⟩
      try simp only [Act.put, pA_, pB_, pC_]
      refine gU_ 32 rfl ⟨_, by intro W hW; refine Eq.trans (exec_load_part 27 _ (by rfl) (by rfl) [] (rlC r) [] HRu.out.1 (stepB (stepB bw1 bw2) hW) (by rfl) rfl Tryd.underlying27 rfl info_r22) ?_; with_reducible rfl, ?_⟩
      try simp only [Act.put, pA_, pB_, pC_]
      refine gU_ 33 rfl ⟨_, by intro W hW; go_simp <;> with_reducible rfl, ?_⟩
      try simp only [Act.put, pA_, pB_, pC_]
      refine gU_ 34 rfl ⟨_, by intro W hW; go_simp <;> with_reducible rfl, ?_⟩
      try simp only [Act.put, pA_, pB_, pC_]
      refine gU_ 35 rfl ⟨_, by intro W hW; refine Eq.trans (exec_load_part 50 _ (by rfl) (by rfl) (preS X so b1 b2 b3) (ssC sp' a1 a2 a3') (postS X so b1 b2 b3) HRu.out.2 (stepB (stepB bw1 bw2) hW) (by rfl) (preS_len hX2) Tryd.underlying50 rfl info_ss) ?_; with_reducible rfl, ?_⟩
      try simp only [Act.put, pA_, pB_, pC_]
      refine gU_ 36 rfl ⟨_, by intro W hW; go_simp <;> with_reducible rfl, ?_⟩
      try simp only [Act.put, pA_, pB_, pC_]
      refine gU_ 37 rfl ⟨_, by intro W hW; have cW := (HCx.out W (stepB (stepB bw1 bw2) hW)).2.2.1; go_simp <;> with_reducible rfl, ?_⟩
      try simp only [Act.put, pA_, pB_, pC_]
      refine gD_ 31 fun K hK => ?_
      go_simp
      refine (cexpired_any gk r sp' nw HNw.out.1 _ (HCx.out _ (stepB bw1 bw2)).2.2.2).mono ?_
      rw [← HB2.out]
      rintro e wd ⟨rfl, bw3⟩
      refine hK.out _ _ bw3 ?_
      clear hK K
      try simp only [Act.put, pA_, pB_, pC_]
      refine gD_ 38 fun K hK => ?_
      go_simp
      refine (expired22_any r sp' HJc.out.1.dok a1 a2 a3' nw HNw.out.1 _ _ rfl rfl _).mono ?_
      rw [← HB2.out]
      rintro e we ⟨rfl, bw4⟩
      refine hK.out _ _ bw4 ?_
      clear hK K
      try simp only [Act.put, pA_, pB_, pC_]
      refine gU_ 39 rfl ⟨_, by intro W hW; go_simp <;> with_reducible rfl, ?_⟩
      try simp only [Act.put, pA_, pB_, pC_]
      refine gU_ 40 rfl ⟨_, by intro W hW; go_simp <;> with_reducible rfl, ?_⟩
      try simp only [Act.put, pA_, pB_, pC_]
      refine wpG_done (by kernel_rfl) ?_
      have hbz : Below wz.heap.size wz we := stepB (Below.refl _ wz).drew (stepB (stepB (stepB bw1 bw2) bw3) bw4)
      obtain ⟨s0', s1', e1, e2, e3, f1, f2, f3, hpl⟩ := HBk.out _ _ _ _ _ _ _ _ (HJc.out.1.kept hbz)
      have HFin : Hid (PlX w gR gX gS 0 g0 g1 r s0' s0' s1' e1 e2 e3 f1 f2 f3 _ _ ns' bs' (i + 1) we ∧ bs'.length = ns'.length ∧ ns'.length ≤ i + 1) := ⟨hpl, HJc.out.2.2⟩
      clear bw1 bw2 bw3 bw4 hbz hpl HRu HCx HJc
      go_wp2
      go_roundw
      case rel => exact ⟨i + 1, s0', s1', e1, e2, e3, f1, f2, f3, ns', bs', HI1.out, by go_num, HFin.out⟩
      case measure => have := HI1.out; simp [intOf] <;> omega
end Go.Proofs.YtliiofjcghdjoaaDoor
