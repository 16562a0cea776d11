/- Nonces, and one step of a cipher: contracts of package sym, first part. -/
import Derived.Test.YtliiofjcghdjoaaDoorSmt
import Derived.Test.YtliiofjcghdjoaaDoorA09d
import Derived.Test.YtliiofjcghdjoaaDoorLit2
import Derived.Test.YtliiofjcghdjoaaDoorBase
import Derived.OwnWalk
namespace Go.Proofs.YtliiofjcghdjoaaDoor
open Go.ChangeShapes Go.WideShapes Go.ChangeAt Go.RowKit
set_option linter.unusedSimpArgs false
set_option linter.unusedVariables false

/-- Bytes are made in a region whose order is open. -/
theorem wp_make_own {P : Program} {e : TypeId} {w : World} {o : Oper} {a : Act} {K : Act → World → Prop} {Q : Exit → Act → World → Prop} (l c : Operand) (t : TypeId) (ho : o.op = .makeSlice t l c) (hu : P.underlying t = some (.slice e))
    (hinfo : (P.info? e).map (fun i => (i.zero, i.size, i.bytes)) = some (some (.int .u8 0), 1, 1)) (n : Nat) (hl : a.eval l = .int .i64 (n : Int)) (hc : a.eval c = .int .i64 (n : Int)) (hn : n ≤ 1000000)
    (h : ∀ w', New e w (.slice (some ⟨w.heap.size, 0, none⟩) n n) (List.replicate n 0) w' → K (a.put o.dst (.slice (some ⟨w.heap.size, 0, none⟩) n n)) w') : o.wp P a w K Q := by
  obtain ⟨i, hi, hz0, hz1, hz2⟩ := info_parts hinfo
  obtain ⟨w', hrun, r1, r2⟩ := run_make_full (P := P) w w.heap.size t e i _ 1 hu hi hz0 hz1 .i64 .i64 n (by rw [hz2]; omega) (by unfold maxLen; omega) (Nat.le_refl _)
  unfold Oper.wp
  simp [execOp, ho, hl, hc, hrun, Result.andThen]
  rw [Nat.mul_one] at r1
  exact h w' (New.made r1 r2)
theorem wpList_make_new16 {P : Program} {e : TypeId} {w : World} {ops : Array Oper} {rest : List Oper} {o : Oper} {a : Act} {Q : Exit → Act → World → Prop} (hgd : o.guard = none) (l c : Operand) (t : TypeId) (ho : o.op = .makeSlice t l c) (hu : P.underlying t = some (.slice e))
    (hinfo : (P.info? e).map (fun i => (i.zero, i.size, i.bytes)) = some (some (.int .u8 0), 1, 1)) (n : Nat) (hl : a.eval l = .int .i64 (n : Int)) (hc : a.eval c = .int .i64 (n : Int)) (hn : n ≤ 1000000)
    (h : ∀ w', New e w (.slice (some ⟨w.heap.size, 0, none⟩) n n) (List.replicate n 0) w' → wpList P ops Q rest (a.put o.dst (.slice (some ⟨w.heap.size, 0, none⟩) n n)) w') : wpList P ops Q (o :: rest) a w :=
  wpList_plain hgd fun _ hK => wp_make_own l c t ho hu hinfo n hl hc hn fun w' h1 => hK _ _ (h w' h1)

theorem RdL.lit2G {w : World} {e : TypeId} {v1 v2 : Value} {l1 l2 : List UInt8} (h1 : Rd w v1 l1) (h2 : Rd w v2 l2) : RdL (w.alloc (.cells #[v1, v2] e)) (.slice (some ⟨w.heap.size, 0, none⟩) 2 2) [v1, v2] [l1, l2] ∧ Below w.heap.size w (w.alloc (.cells #[v1, v2] e)) := ⟨RdL.lit2 h1 h2, growB _⟩

set_option maxRecDepth 100000 in
set_option maxHeartbeats 2000000 in
theorem nonceOf_any (x : Nat) (hx : x < 18446744073709551616) (w : World) : Calls Tryd.prog 55 #[.int .u64 (x : Int)] w fun e w' => ∃ v, e = .returned v ∧ New 5 w v (ncL x) w' := by
  have HL : Hid (totL [List.replicate 4 (0 : UInt8), st8 x] ≤ 1000000000) := by show _ ≤ _; simp [totL, st8_length]
  clear hx
  go_enter Tryd.func55, Tryd.ntmps55
  go_wp2_with fail
  have hB : Below w.heap.size w w.drew := (Below.refl _ _).drew
  refine wpB_begin (Below.refl w.heap.size w) (by kernel_rfl) ?_
  refine bU_ hB 1 rfl ⟨_, by intro W hW; go_simp <;> with_reducible rfl, ?_⟩
  try simp only [Act.put, pA_, pB_, pC_]
  refine bF_ 0 2 (fun K hK => ?_) (fun K hK => ?_)
  · refine wp_make_own _ _ 40 rfl Tryd.underlying40 infoU8 4 rfl rfl (by decide) ?_
    intro wm hNm
    have hM := hNm.rd
    replace hB := stepB hB hNm.2
    try replace hS := Rd.kept hS hNm.2
    refine hK.out _ _ hB ?_
    clear hK K
    try simp only [Act.put, pA_, pB_, pC_]
    refine bD_ 2 fun K hK => ?_
    go_simp
    refine (store_k x 8 8 (by decide) (.inr (.inl ⟨by decide, by decide, rfl⟩)) _).mono ?_
    rintro e ws ⟨vs, rfl, hNs⟩
    have hS : Rd ws vs (st8 x) := hNs.rd
    obtain ⟨sa, sc, rfl, -⟩ := id hS
    replace hB := stepB hB hNs.2
    try replace hM := Rd.kept hM hNs.2
    refine hK.out _ _ hB ?_
    clear hK K
    try simp only [Act.put, pA_, pB_, pC_]
    refine bD_ 3 fun K hK => ?_
    go_simp
    obtain ⟨hL, bL⟩ := RdL.lit2G (e := 40) hM hS
    replace hB := stepB hB bL
    refine hK.out _ _ hB ?_
    clear hK K
    try simp only [Act.put, pA_, pB_, pC_]
    refine bD_ 4 fun K hK => ?_
    go_simp
    refine (join_any _ _ _ _ hL HL.out).mono ?_
    rintro e wj ⟨vj, rfl, hNj⟩
    have HJ : Hid (New 5 w vj (ncL x) wj) := hNj.two.from hB
    replace hB := stepB hB hNj.2
    refine hK.out _ _ hB ?_
    clear hK K
    try simp only [Act.put, pA_, pB_, pC_]
    refine bU_ hB 5 rfl ⟨_, by intro W hW; go_simp <;> with_reducible rfl, ?_⟩
    try simp only [Act.put, pA_, pB_, pC_]
    refine wpB_done (by kernel_rfl) ?_
    go_wp2
    go_ret
    exact ⟨vj, rfl, HJ.out⟩
  · go_simp
    refine (store_k x 8 8 (by decide) (.inr (.inl ⟨by decide, by decide, rfl⟩)) _).mono ?_
    rintro e ws ⟨vs, rfl, hNs⟩
    have hS : Rd ws vs (st8 x) := hNs.rd
    obtain ⟨sa, sc, rfl, -⟩ := id hS
    replace hB := stepB hB hNs.2
    try replace hM := Rd.kept hM hNs.2
    refine hK.out _ _ hB ?_
    clear hK K
    try simp only [Act.put, pA_, pB_, pC_]
    refine bD_ 0 fun K hK => ?_
    refine wp_make_own _ _ 40 rfl Tryd.underlying40 infoU8 4 rfl rfl (by decide) ?_
    intro wm hNm
    have hM := hNm.rd
    replace hB := stepB hB hNm.2
    try replace hS := Rd.kept hS hNm.2
    refine hK.out _ _ hB ?_
    clear hK K
    try simp only [Act.put, pA_, pB_, pC_]
    refine bD_ 3 fun K hK => ?_
    go_simp
    obtain ⟨hL, bL⟩ := RdL.lit2G (e := 40) hM hS
    replace hB := stepB hB bL
    refine hK.out _ _ hB ?_
    clear hK K
    try simp only [Act.put, pA_, pB_, pC_]
    refine bD_ 4 fun K hK => ?_
    go_simp
    refine (join_any _ _ _ _ hL HL.out).mono ?_
    rintro e wj ⟨vj, rfl, hNj⟩
    have HJ : Hid (New 5 w vj (ncL x) wj) := hNj.two.from hB
    replace hB := stepB hB hNj.2
    refine hK.out _ _ hB ?_
    clear hK K
    try simp only [Act.put, pA_, pB_, pC_]
    refine bU_ hB 5 rfl ⟨_, by intro W hW; go_simp <;> with_reducible rfl, ?_⟩
    try simp only [Act.put, pA_, pB_, pC_]
    refine wpB_done (by kernel_rfl) ?_
    go_wp2
    go_ret
    exact ⟨vj, rfl, HJ.out⟩

/-- A step's cells: key, nonce, what is beside. -/
def spC (vk vn va : Value) : List Value := [vk, vn, va]
theorem alloc_sp (w : World) : (Instr.alloc 93 true (.tuple #[])).run Tryd.prog w = .ok (.pointer (some ⟨w.heap.size, 0, none⟩)) (w.alloc (.cells (spC (.slice none 0 0) (.slice none 0 0) (.slice none 0 0)).toArray 93)) := by kernel_rfl
theorem info_sp (vk vn va : Value) : (Tryd.prog.info? 93).map (·.size) = some (spC vk vn va).length := by
  show _ = some 3
  kernel_rfl
theorem spC_all (a1 a2 a3 : Option Addr) (l1 c1 l2 c2 l3 c3 : Nat) : (spC (.slice a1 l1 c1) (.slice a2 l2 c2) (.slice a3 l3 c3)).toArray.all (·.oneCell') = true := by kernel_rfl
theorem spC_no8 (a1 a2 a3 : Option Addr) (l1 c1 l2 c2 l3 c3 : Nat) : No8 (spC (.slice a1 l1 c1) (.slice a2 l2 c2) (.slice a3 l3 c3)) := No8.of_slices (by
  intro v hv x
  simp only [spC, List.mem_cons, List.not_mem_nil, or_false] at hv
  rcases hv with rfl | rfl | rfl <;> simp)
theorem build_sp (a1 a2 a3 : Option Addr) (l1 c1 l2 c2 l3 c3 : Nat) (w : World) : (Instr.build 93 #[(0, .slice a1 l1 c1), (1, .slice a2 l2 c2), (2, .slice a3 l3 c3)]).run Tryd.prog w = .ok (.agg #[.slice a1 l1 c1, .slice a2 l2 c2, .slice a3 l3 c3]) w := by kernel_rfl
theorem wholeS (l : List Value) : l = [] ++ l ++ [] := by simp
theorem cellS {w W : World} {p : Addr} {v : Value} (h : w.cell? p = some v) (hb : Below w.drew.heap.size w.drew W) : W.cell? p = some v := by
  have h2 : w.drew.cell? p = some v := h
  rw [hb.cell (World.block_lt_of_cell? _ _ h2)]
  exact h2

set_option maxRecDepth 100000 in
set_option maxHeartbeats 2000000 in
theorem swith_any (g o : Nat) (ak aa : Option Addr) (lk ck la ca n : Nat) (hn : n < 18446744073709551616) (w : World) (hc : w.cell? ⟨g, o, none⟩ = some (.slice ak lk ck)) :
    Calls Tryd.prog 48 #[.pointer (some ⟨g, o, none⟩), .int .u64 (n : Int), .slice aa la ca] w fun e w' => ∃ vn, e = .returned (.agg #[.slice ak lk ck, vn, .slice aa la ca]) ∧ Rd w' vn (ncL n) ∧ Below w.heap.size w w' := by
  have HN : Hid _ := hn
  clear hn
  go_enter Tryd.func48, Tryd.ntmps48
  go_wp2_with (refine wpList_alloc_blk rfl 93 rfl (spC (.slice none 0 0) (.slice none 0 0) (.slice none 0 0)) (alloc_sp _) ?_)
  intro w1 r1 b1 s1
  have c0 : w1.cell? ⟨g, o, none⟩ = some (.slice ak lk ck) := by
    rw [b1.cell (World.block_lt_of_cell? _ _ hc)]
    exact hc
  have z1 : w.heap.size ≤ w.heap.size := Nat.le_refl _
  clear hc s1
  go_wp2_with fail
  refine wpE_begin 8 (by kernel_rfl) ?_
  refine eU_ 0 rfl ⟨_, by intro W hW; go_simp <;> with_reducible rfl, ?_⟩
  try simp only [Act.put, pA_, pB_, pC_]
  refine eU_ 1 rfl ⟨_, by intro W hW; go_simp <;> with_reducible rfl, ?_⟩
  try simp only [Act.put, pA_, pB_, pC_]
  refine eU_ 2 rfl ⟨_, by intro W hW; go_simp <;> with_reducible rfl, ?_⟩
  try simp only [Act.put, pA_, pB_, pC_]
  refine eU_ 3 rfl ⟨_, by intro W hW; have hcW := cellS c0 hW; go_simp <;> with_reducible rfl, ?_⟩
  try simp only [Act.put, pA_, pB_, pC_]
  refine eU_ 4 rfl ⟨_, by intro W hW; go_simp <;> with_reducible rfl, ?_⟩
  try simp only [Act.put, pA_, pB_, pC_]
  refine eU_ 6 rfl ⟨_, by intro W hW; go_simp <;> with_reducible rfl, ?_⟩
  try simp only [Act.put, pA_, pB_, pC_]
  refine eD_ 5 fun K hK => ?_
  go_simp
  refine (nonceOf_any n HN.out _).mono ?_
  rintro e w3 ⟨v3, rfl, hN3⟩
  obtain ⟨a3, k3, rfl, -⟩ := id hN3.rd
  refine hK.out _ _ hN3.2 ?_
  clear hK K
  try simp only [Act.put, pA_, pB_, pC_]
  refine eU_ 7 rfl ⟨_, by intro W hW; refine Eq.trans (exec_build 93 #[(0, .tmp 10), (1, .tmp 12), (2, .tmp 13)] (by rfl) #[(0, .slice ak lk ck), (1, .slice a3 (ncL n).length k3), (2, .slice aa la ca)] (by go_simp) (.agg #[.slice ak lk ck, .slice a3 (ncL n).length k3, .slice aa la ca]) (build_sp _ _ _ _ _ _ _ _ _ _)) ?_; with_reducible rfl, ?_⟩
  try simp only [Act.put, pA_, pB_, pC_]
  refine eL_ fun K hK => ?_
  refine wp_store_part 93 _ _ rfl rfl (spC (.slice ak lk ck) (.slice a3 (ncL n).length k3) (.slice aa la ca)) rfl [] (spC (.slice none 0 0) (.slice none 0 0) (.slice none 0 0)) [] (spC (.slice ak lk ck) (.slice a3 (ncL n).length k3) (.slice aa la ca)) (r1.drew.kept hN3.2) (wholeS _) (wholeS _) rfl rfl (info_sp (.slice none 0 0) (.slice none 0 0) (.slice none 0 0)) (spC_all _ _ _ _ _ _ _ _ _) ?_
  intro w7 r7 hw7
  refine hK.out _ _ ?_
  clear hK K
  try simp only [Act.put, pA_, pB_, pC_]
  have b3 := stepB b1.drew hN3.2
  have HX : Hid (Rd w7 (.slice a3 (ncL n).length k3) (ncL n)) := hN3.rd.past16 (r1.drew.kept hN3.2) (spC_no8 _ _ _ _ _ _ _ _ _) (Chg.of_wrote hw7)
  have HB7 : Hid _ := hw7.below _ _ z1 b3
  clear hN3 b3 r1
  go_wp2_with fail
  refine bodyPost_blk rfl rfl rfl r7 Tryd.underlying93 rfl (info_sp _ _ _) ?_
  exact ⟨_, rfl, HX.out, HB7.out⟩

set_option maxRecDepth 100000 in
set_option maxHeartbeats 2000000 in
theorem stepSeal_any (vk vn va vb : Value) (k n a b : List UInt8) (hla : a.length ≤ 3000000) (hlb : b.length ≤ 3000000) (w : World) (hP : PlT w) (hT : KpT w) (hk : Rd w vk k) (hn : Rd w vn n) (ha : Rd w va a) (hb : Rd w vb b) :
    Calls Tryd.prog 39 #[.agg #[vk, vn, va], vb] w fun e w' => ∃ r, e = .returned (.tuple #[r, .int .i64 (seA k n a b).2]) ∧ New 5 w r (seA k n a b).1 w' := by
  obtain ⟨q, hq⟩ : ∃ q, q = seA k n a b := ⟨_, rfl⟩
  rw [← hq]
  have HQ : Hid (q = seA k n a b) := hq
  obtain ⟨q1, q2⟩ := q
  clear hq
  have HK : Hid (Rd w vk k) := hk
  have HN : Hid (Rd w vn n) := hn
  have HA : Hid (Rd w va a) := ha
  have HB : Hid (Rd w vb b) := hb
  have HLA : Hid (a.length ≤ 3000000) := hla
  have HLB : Hid (b.length ≤ 3000000) := hlb
  have HP : Hid (PlT w) := hP
  have HT : Hid (KpT w) := hT
  clear hla hlb hP hT hk hn ha hb
  go_enter Tryd.func39, Tryd.ntmps39
  go_wp2_with (refine wpList_box_blk rfl 93 _ rfl (spC vk vn va) rfl ?_)
  intro w1 r1 b1 s1
  have c0 : w1.cell? ⟨w.heap.size, 0, none⟩ = some vk := r1.cell 0
  have c1 : w1.cell? ⟨w.heap.size, 1, none⟩ = some vn := r1.cell 1
  have c2 : w1.cell? ⟨w.heap.size, 2, none⟩ = some va := r1.cell 2
  clear r1 s1
  go_wp2_with fail
  refine (aseal_all _ _ _ _ k n a b HLA.out HLB.out _ (HP.out.kept b1) (HT.out.kept b1) (HK.out.kept b1) (HN.out.kept b1) (HA.out.kept b1) (HB.out.kept b1)).mono ?_
  rw [← HQ.out]
  rintro e w2 ⟨v2, rfl, hN2⟩
  have HR : Hid (New 5 w v2 q1 w2) := New.from hN2 b1
  clear hN2 c0 c1 c2
  go_wp2
  go_ret2
  exact ⟨_, rfl, HR.out⟩

set_option maxRecDepth 100000 in
set_option maxHeartbeats 2000000 in
theorem stepOpen_any (vk vn va vb : Value) (k n a b : List UInt8) (hla : a.length ≤ 3000000) (hlb : b.length ≤ 3000000) (w : World) (hP : PlT w) (hT : KpT w) (hk : Rd w vk k) (hn : Rd w vn n) (ha : Rd w va a) (hb : Rd w vb b) :
    Calls Tryd.prog 43 #[.agg #[vk, vn, va], vb] w fun e w' => ∃ r, e = .returned (.tuple #[r, .int .i64 (opA k n a b).2]) ∧ New 5 w r (opA k n a b).1 w' := by
  obtain ⟨q, hq⟩ : ∃ q, q = opA k n a b := ⟨_, rfl⟩
  rw [← hq]
  have HQ : Hid (q = opA k n a b) := hq
  obtain ⟨q1, q2⟩ := q
  clear hq
  have HK : Hid (Rd w vk k) := hk
  have HN : Hid (Rd w vn n) := hn
  have HA : Hid (Rd w va a) := ha
  have HB : Hid (Rd w vb b) := hb
  have HLA : Hid (a.length ≤ 3000000) := hla
  have HLB : Hid (b.length ≤ 3000000) := hlb
  have HP : Hid (PlT w) := hP
  have HT : Hid (KpT w) := hT
  clear hla hlb hP hT hk hn ha hb
  go_enter Tryd.func43, Tryd.ntmps43
  go_wp2_with (refine wpList_box_blk rfl 93 _ rfl (spC vk vn va) rfl ?_)
  intro w1 r1 b1 s1
  have c0 : w1.cell? ⟨w.heap.size, 0, none⟩ = some vk := r1.cell 0
  have c1 : w1.cell? ⟨w.heap.size, 1, none⟩ = some vn := r1.cell 1
  have c2 : w1.cell? ⟨w.heap.size, 2, none⟩ = some va := r1.cell 2
  clear r1 s1
  go_wp2_with fail
  refine (aopen_all _ _ _ _ k n a b HLA.out HLB.out _ (HP.out.kept b1) (HT.out.kept b1) (HK.out.kept b1) (HN.out.kept b1) (HA.out.kept b1) (HB.out.kept b1)).mono ?_
  rw [← HQ.out]
  rintro e w2 ⟨v2, rfl, hN2⟩
  have HR : Hid (New 5 w v2 q1 w2) := New.from hN2 b1
  clear hN2 c0 c1 c2
  go_wp2
  go_ret2
  exact ⟨_, rfl, HR.out⟩
end Go.Proofs.YtliiofjcghdjoaaDoor
