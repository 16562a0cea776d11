/- What functions of the program, or of the reference, answer: contracts; several texts in one. -/
import Derived.Test.YtliiofjcghdjoaaDoorGb
import Derived.Test.YtliiofjcghdjoaaDoorGc
import Derived.Test.YtliiofjcghdjoaaDoorBase
import Derived.OwnWalk
import Derived.Shelf.Abstract
import Derived.Lib.SlBytesConst
import Derived.Test.YtliiofjcghdjoaaDoorGa
import Derived.Test.YtliiofjcghdjoaaDoorRows
import Derived.Deep.QuietTactic
import Derived.BigQuiet
import Derived.WalkSpells
import Derived.RegionTactic
import Derived.BigRegion
import Derived.Test.YtliiofjcghdjoaaDoorChecked
import Derived.WalkKit
import Derived.Deep.Slices
import Derived.Deep.Strs
import Derived.OpenShut
import Derived.ChangeSlices
import Derived.ChangeSame
import Derived.Deep.Matrix
import Derived.Laws.AppendOwn

/- Nonces, and one step of a cipher: contracts of package sym, first part. -/
namespace Go.Proofs.YtliiofjcghdjoaaDoor
open Go.ChangeShapes Go.WideShapes Go.ChangeAt Go.RowKit
set_option linter.unusedSimpArgs false
set_option linter.unusedVariables false

/-- Bytes are made in a region whose order is open. -/
theorem wp_make_own {P : Program} {e : TypeId} {w : World} {o : Oper} {a : Act} {K : Act → World → Prop} {Q : Exit → Act → World → Prop} (l c : Operand) (t : TypeId) (ho : o.op = .makeSlice t l c) (hu : P.underlying t = some (.slice e))
    (hinfo : (P.info? e).map (fun i => (i.zero, i.size, i.bytes)) = some (some (.int .u8 0), 1, 1)) (n : Nat) (hl : a.eval l = .int .i64 (n : Int)) (hc : a.eval c = .int .i64 (n : Int)) (hn : n ≤ 1000000)
    (h : ∀ w', New e w (.slice (some ⟨w.heap.size, 0, none⟩) n n) (List.replicate n 0) w' → K (a.put o.dst (.slice (some ⟨w.heap.size, 0, none⟩) n n)) w') : o.wp P a w K Q := by
  obtain ⟨i, hi, hz0, hz1, hz2⟩ := info_parts hinfo
  obtain ⟨w', hrun, r1, r2⟩ := run_make_full (P := P) w w.heap.size t e i _ 1 hu hi hz0 hz1 .i64 .i64 n (by rw [hz2]; omega) (by unfold maxLen; omega) (Nat.le_refl _)
  unfold Oper.wp
  simp [execOp, ho, hl, hc, hrun, Result.andThen]
  rw [Nat.mul_one] at r1
  exact h w' (New.made r1 r2)
theorem wpList_make_new16 {P : Program} {e : TypeId} {w : World} {ops : Array Oper} {rest : List Oper} {o : Oper} {a : Act} {Q : Exit → Act → World → Prop} (hgd : o.guard = none) (l c : Operand) (t : TypeId) (ho : o.op = .makeSlice t l c) (hu : P.underlying t = some (.slice e))
    (hinfo : (P.info? e).map (fun i => (i.zero, i.size, i.bytes)) = some (some (.int .u8 0), 1, 1)) (n : Nat) (hl : a.eval l = .int .i64 (n : Int)) (hc : a.eval c = .int .i64 (n : Int)) (hn : n ≤ 1000000)
    (h : ∀ w', New e w (.slice (some ⟨w.heap.size, 0, none⟩) n n) (List.replicate n 0) w' → wpList P ops Q rest (a.put o.dst (.slice (some ⟨w.heap.size, 0, none⟩) n n)) w') : wpList P ops Q (o :: rest) a w :=
  wpList_plain hgd fun _ hK => wp_make_own l c t ho hu hinfo n hl hc hn fun w' h1 => hK _ _ (h w' h1)

theorem RdL.lit2G {w : World} {e : TypeId} {v1 v2 : Value} {l1 l2 : List UInt8} (h1 : Rd w v1 l1) (h2 : Rd w v2 l2) : RdL (w.alloc (.cells #[v1, v2] e)) (.slice (some ⟨w.heap.size, 0, none⟩) 2 2) [v1, v2] [l1, l2] ∧ Below w.heap.size w (w.alloc (.cells #[v1, v2] e)) := ⟨RdL.lit2 h1 h2, growB _⟩

set_option maxRecDepth 100000 in
set_option maxHeartbeats 2000000 in
theorem nonceOf_any (x : Nat) (hx : x < 18446744073709551616) (w : World) : Calls Tryd.prog 55 #[.int .u64 (x : Int)] w fun e w' => ∃ v, e = .returned v ∧ New 5 w v (ncL x) w' := by
  have HL : Hid (totL [List.replicate 4 (0 : UInt8), st8 x] ≤ 1000000000) := by show _ ≤ _; simp [totL, st8_length]
  clear hx
  go_enter Tryd.func55, Tryd.ntmps55
  go_wp2_with fail
  have hB : Below w.heap.size w w.drew := (Below.refl _ _).drew
  refine wpB_begin (Below.refl w.heap.size w) (by kernel_rfl) ?_
  refine bU_ hB 1 rfl ⟨_, by intro W hW; go_simp <;> with_reducible rfl, ?_⟩
  try simp only [Act.put, pA_, pB_, pC_]
  refine bF_ 0 2 (fun K hK => ?_) (fun K hK => ?_)
  · refine wp_make_own _ _ 40 rfl Tryd.underlying40 infoU8 4 rfl rfl (by decide) ?_
    intro wm hNm
    have hM := hNm.rd
    replace hB := stepB hB hNm.2
    try replace hS := Rd.kept hS hNm.2
    refine hK.out _ _ hB ?_
    clear hK K
    try simp only [Act.put, pA_, pB_, pC_]
    refine bD_ 2 fun K hK => ?_
    go_simp
    refine (store_k x 8 8 (by decide) (.inr (.inl ⟨by decide, by decide, rfl⟩)) _).mono ?_
    rintro e ws ⟨vs, rfl, hNs⟩
    have hS : Rd ws vs (st8 x) := hNs.rd
    obtain ⟨sa, sc, rfl, -⟩ := id hS
    replace hB := stepB hB hNs.2
    try replace hM := Rd.kept hM hNs.2
    refine hK.out _ _ hB ?_
    clear hK K
    try simp only [Act.put, pA_, pB_, pC_]
    refine bD_ 3 fun K hK => ?_
    go_simp
    obtain ⟨hL, bL⟩ := RdL.lit2G (e := 40) hM hS
    replace hB := stepB hB bL
    refine hK.out _ _ hB ?_
    clear hK K
    try simp only [Act.put, pA_, pB_, pC_]
    refine bD_ 4 fun K hK => ?_
    go_simp
    refine (join_any _ _ _ _ hL HL.out).mono ?_
    rintro e wj ⟨vj, rfl, hNj⟩
    have HJ : Hid (New 5 w vj (ncL x) wj) := hNj.two.from hB
    replace hB := stepB hB hNj.2
    refine hK.out _ _ hB ?_
    clear hK K
    try simp only [Act.put, pA_, pB_, pC_]
    refine bU_ hB 5 rfl ⟨_, by intro W hW; go_simp <;> with_reducible rfl, ?_⟩
    try simp only [Act.put, pA_, pB_, pC_]
    refine wpB_done (by kernel_rfl) ?_
    go_wp2
    go_ret
    exact ⟨vj, rfl, HJ.out⟩
  · go_simp
    refine (store_k x 8 8 (by decide) (.inr (.inl ⟨by decide, by decide, rfl⟩)) _).mono ?_
    rintro e ws ⟨vs, rfl, hNs⟩
    have hS : Rd ws vs (st8 x) := hNs.rd
    obtain ⟨sa, sc, rfl, -⟩ := id hS
    replace hB := stepB hB hNs.2
    try replace hM := Rd.kept hM hNs.2
    refine hK.out _ _ hB ?_
    clear hK K
    try simp only [Act.put, pA_, pB_, pC_]
    refine bD_ 0 fun K hK => ?_
    refine wp_make_own _ _ 40 rfl Tryd.underlying40 infoU8 4 rfl rfl (by decide) ?_
    intro wm hNm
    have hM := hNm.rd
    replace hB := stepB hB hNm.2
    try replace hS := Rd.kept hS hNm.2
    refine hK.out _ _ hB ?_
    clear hK K
    try simp only [Act.put, pA_, pB_, pC_]
    refine bD_ 3 fun K hK => ?_
    go_simp
    obtain ⟨hL, bL⟩ := RdL.lit2G (e := 40) hM hS
    replace hB := stepB hB bL
    refine hK.out _ _ hB ?_
    clear hK K
    try simp only [Act.put, pA_, pB_, pC_]
    refine bD_ 4 fun K hK => ?_
    go_simp
    refine (join_any _ _ _ _ hL HL.out).mono ?_
    rintro e wj ⟨vj, rfl, hNj⟩
    have HJ : Hid (New 5 w vj (ncL x) wj) := hNj.two.from hB
    replace hB := stepB hB hNj.2
    refine hK.out _ _ hB ?_
    clear hK K
    try simp only [Act.put, pA_, pB_, pC_]
    refine bU_ hB 5 rfl ⟨_, by intro W hW; go_simp <;> with_reducible rfl, ?_⟩
    try simp only [Act.put, pA_, pB_, pC_]
    refine wpB_done (by kernel_rfl) ?_
    go_wp2
    go_ret
    exact ⟨vj, rfl, HJ.out⟩

/-- A step's cells: key, nonce, what is beside. -/
def spC (vk vn va : Value) : List Value := [vk, vn, va]
theorem alloc_sp (w : World) : (Instr.alloc 93 true (.tuple #[])).run Tryd.prog w = .ok (.pointer (some ⟨w.heap.size, 0, none⟩)) (w.alloc (.cells (spC (.slice none 0 0) (.slice none 0 0) (.slice none 0 0)).toArray 93)) := by kernel_rfl
theorem info_sp (vk vn va : Value) : (Tryd.prog.info? 93).map (·.size) = some (spC vk vn va).length := by
  show _ = some 3
  kernel_rfl
theorem spC_all (a1 a2 a3 : Option Addr) (l1 c1 l2 c2 l3 c3 : Nat) : (spC (.slice a1 l1 c1) (.slice a2 l2 c2) (.slice a3 l3 c3)).toArray.all (·.oneCell') = true := by kernel_rfl
theorem spC_no8 (a1 a2 a3 : Option Addr) (l1 c1 l2 c2 l3 c3 : Nat) : No8 (spC (.slice a1 l1 c1) (.slice a2 l2 c2) (.slice a3 l3 c3)) := No8.of_slices (by
  intro v hv x
  simp only [spC, List.mem_cons, List.not_mem_nil, or_false] at hv
  rcases hv with rfl | rfl | rfl <;> simp)
theorem build_sp (a1 a2 a3 : Option Addr) (l1 c1 l2 c2 l3 c3 : Nat) (w : World) : (Instr.build 93 #[(0, .slice a1 l1 c1), (1, .slice a2 l2 c2), (2, .slice a3 l3 c3)]).run Tryd.prog w = .ok (.agg #[.slice a1 l1 c1, .slice a2 l2 c2, .slice a3 l3 c3]) w := by kernel_rfl
theorem wholeS (l : List Value) : l = [] ++ l ++ [] := by simp
theorem cellS {w W : World} {p : Addr} {v : Value} (h : w.cell? p = some v) (hb : Below w.drew.heap.size w.drew W) : W.cell? p = some v := by
  have h2 : w.drew.cell? p = some v := h
  rw [hb.cell (World.block_lt_of_cell? _ _ h2)]
  exact h2

set_option maxRecDepth 100000 in
set_option maxHeartbeats 2000000 in
theorem swith_any (g o : Nat) (ak aa : Option Addr) (lk ck la ca n : Nat) (hn : n < 18446744073709551616) (w : World) (hc : w.cell? ⟨g, o, none⟩ = some (.slice ak lk ck)) :
    Calls Tryd.prog 48 #[.pointer (some ⟨g, o, none⟩), .int .u64 (n : Int), .slice aa la ca] w fun e w' => ∃ vn, e = .returned (.agg #[.slice ak lk ck, vn, .slice aa la ca]) ∧ Rd w' vn (ncL n) ∧ Below w.heap.size w w' := by
  have HN : Hid _ := hn
  clear hn
  go_enter Tryd.func48, Tryd.ntmps48
  go_wp2_with (refine wpList_alloc_blk rfl 93 rfl (spC (.slice none 0 0) (.slice none 0 0) (.slice none 0 0)) (alloc_sp _) ?_)
  intro w1 r1 b1 s1
  have c0 : w1.cell? ⟨g, o, none⟩ = some (.slice ak lk ck) := by
    rw [b1.cell (World.block_lt_of_cell? _ _ hc)]
    exact hc
  have z1 : w.heap.size ≤ w.heap.size := Nat.le_refl _
  clear hc s1
  go_wp2_with fail
  refine wpE_begin 8 (by kernel_rfl) ?_
  refine eU_ 0 rfl ⟨_, by intro W hW; go_simp <;> with_reducible rfl, ?_⟩
  try simp only [Act.put, pA_, pB_, pC_]
  refine eU_ 1 rfl ⟨_, by intro W hW; go_simp <;> with_reducible rfl, ?_⟩
  try simp only [Act.put, pA_, pB_, pC_]
  refine eU_ 2 rfl ⟨_, by intro W hW; go_simp <;> with_reducible rfl, ?_⟩
  try simp only [Act.put, pA_, pB_, pC_]
  refine eU_ 3 rfl ⟨_, by intro W hW; have hcW := cellS c0 hW; go_simp <;> with_reducible rfl, ?_⟩
  try simp only [Act.put, pA_, pB_, pC_]
  refine eU_ 4 rfl ⟨_, by intro W hW; go_simp <;> with_reducible rfl, ?_⟩
  try simp only [Act.put, pA_, pB_, pC_]
  refine eU_ 6 rfl ⟨_, by intro W hW; go_simp <;> with_reducible rfl, ?_⟩
  try simp only [Act.put, pA_, pB_, pC_]
  refine eD_ 5 fun K hK => ?_
  go_simp
  refine (nonceOf_any n HN.out _).mono ?_
  rintro e w3 ⟨v3, rfl, hN3⟩
  obtain ⟨a3, k3, rfl, -⟩ := id hN3.rd
  refine hK.out _ _ hN3.2 ?_
  clear hK K
  try simp only [Act.put, pA_, pB_, pC_]
  refine eU_ 7 rfl ⟨_, by intro W hW; refine Eq.trans (exec_build 93 #[(0, .tmp 10), (1, .tmp 12), (2, .tmp 13)] (by rfl) #[(0, .slice ak lk ck), (1, .slice a3 (ncL n).length k3), (2, .slice aa la ca)] (by go_simp) (.agg #[.slice ak lk ck, .slice a3 (ncL n).length k3, .slice aa la ca]) (build_sp _ _ _ _ _ _ _ _ _ _)) ?_; with_reducible rfl, ?_⟩
  try simp only [Act.put, pA_, pB_, pC_]
  refine eL_ fun K hK => ?_
  refine wp_store_part 93 _ _ rfl rfl (spC (.slice ak lk ck) (.slice a3 (ncL n).length k3) (.slice aa la ca)) rfl [] (spC (.slice none 0 0) (.slice none 0 0) (.slice none 0 0)) [] (spC (.slice ak lk ck) (.slice a3 (ncL n).length k3) (.slice aa la ca)) (r1.drew.kept hN3.2) (wholeS _) (wholeS _) rfl rfl (info_sp (.slice none 0 0) (.slice none 0 0) (.slice none 0 0)) (spC_all _ _ _ _ _ _ _ _ _) ?_
  intro w7 r7 hw7
  refine hK.out _ _ ?_
  clear hK K
  try simp only [Act.put, pA_, pB_, pC_]
  have b3 := stepB b1.drew hN3.2
  have HX : Hid (Rd w7 (.slice a3 (ncL n).length k3) (ncL n)) := hN3.rd.past16 (r1.drew.kept hN3.2) (spC_no8 _ _ _ _ _ _ _ _ _) (Chg.of_wrote hw7)
  have HB7 : Hid _ := hw7.below _ _ z1 b3
  clear hN3 b3 r1
  go_wp2_with fail
  refine bodyPost_blk rfl rfl rfl r7 Tryd.underlying93 rfl (info_sp _ _ _) ?_
  exact ⟨_, rfl, HX.out, HB7.out⟩

set_option maxRecDepth 100000 in
set_option maxHeartbeats 2000000 in
theorem stepSeal_any (vk vn va vb : Value) (k n a b : List UInt8) (hla : a.length ≤ 3000000) (hlb : b.length ≤ 3000000) (w : World) (hP : PlT w) (hT : KpT w) (hk : Rd w vk k) (hn : Rd w vn n) (ha : Rd w va a) (hb : Rd w vb b) :
    Calls Tryd.prog 39 #[.agg #[vk, vn, va], vb] w fun e w' => ∃ r, e = .returned (.tuple #[r, .int .i64 (seA k n a b).2]) ∧ New 5 w r (seA k n a b).1 w' := by
  obtain ⟨q, hq⟩ : ∃ q, q = seA k n a b := ⟨_, rfl⟩
  rw [← hq]
  have HQ : Hid (q = seA k n a b) := hq
  obtain ⟨q1, q2⟩ := q
  clear hq
  have HK : Hid (Rd w vk k) := hk
  have HN : Hid (Rd w vn n) := hn
  have HA : Hid (Rd w va a) := ha
  have HB : Hid (Rd w vb b) := hb
  have HLA : Hid (a.length ≤ 3000000) := hla
  have HLB : Hid (b.length ≤ 3000000) := hlb
  have HP : Hid (PlT w) := hP
  have HT : Hid (KpT w) := hT
  clear hla hlb hP hT hk hn ha hb
  go_enter Tryd.func39, Tryd.ntmps39
  go_wp2_with (refine wpList_box_blk rfl 93 _ rfl (spC vk vn va) rfl ?_)
  intro w1 r1 b1 s1
  have c0 : w1.cell? ⟨w.heap.size, 0, none⟩ = some vk := r1.cell 0
  have c1 : w1.cell? ⟨w.heap.size, 1, none⟩ = some vn := r1.cell 1
  have c2 : w1.cell? ⟨w.heap.size, 2, none⟩ = some va := r1.cell 2
  clear r1 s1
  go_wp2_with fail
  refine (aseal_all _ _ _ _ k n a b HLA.out HLB.out _ (HP.out.kept b1) (HT.out.kept b1) (HK.out.kept b1) (HN.out.kept b1) (HA.out.kept b1) (HB.out.kept b1)).mono ?_
  rw [← HQ.out]
  rintro e w2 ⟨v2, rfl, hN2⟩
  have HR : Hid (New 5 w v2 q1 w2) := New.from hN2 b1
  clear hN2 c0 c1 c2
  go_wp2
  go_ret2
  exact ⟨_, rfl, HR.out⟩

set_option maxRecDepth 100000 in
set_option maxHeartbeats 2000000 in
theorem stepOpen_any (vk vn va vb : Value) (k n a b : List UInt8) (hla : a.length ≤ 3000000) (hlb : b.length ≤ 3000000) (w : World) (hP : PlT w) (hT : KpT w) (hk : Rd w vk k) (hn : Rd w vn n) (ha : Rd w va a) (hb : Rd w vb b) :
    Calls Tryd.prog 43 #[.agg #[vk, vn, va], vb] w fun e w' => ∃ r, e = .returned (.tuple #[r, .int .i64 (opA k n a b).2]) ∧ New 5 w r (opA k n a b).1 w' := by
  obtain ⟨q, hq⟩ : ∃ q, q = opA k n a b := ⟨_, rfl⟩
  rw [← hq]
  have HQ : Hid (q = opA k n a b) := hq
  obtain ⟨q1, q2⟩ := q
  clear hq
  have HK : Hid (Rd w vk k) := hk
  have HN : Hid (Rd w vn n) := hn
  have HA : Hid (Rd w va a) := ha
  have HB : Hid (Rd w vb b) := hb
  have HLA : Hid (a.length ≤ 3000000) := hla
  have HLB : Hid (b.length ≤ 3000000) := hlb
  have HP : Hid (PlT w) := hP
  have HT : Hid (KpT w) := hT
  clear hla hlb hP hT hk hn ha hb
  go_enter Tryd.func43, Tryd.ntmps43
  go_wp2_with (refine wpList_box_blk rfl 93 _ rfl (spC vk vn va) rfl ?_)
  intro w1 r1 b1 s1
  have c0 : w1.cell? ⟨w.heap.size, 0, none⟩ = some vk := r1.cell 0
  have c1 : w1.cell? ⟨w.heap.size, 1, none⟩ = some vn := r1.cell 1
  have c2 : w1.cell? ⟨w.heap.size, 2, none⟩ = some va := r1.cell 2
  clear r1 s1
  go_wp2_with fail
  refine (aopen_all _ _ _ _ k n a b HLA.out HLB.out _ (HP.out.kept b1) (HT.out.kept b1) (HK.out.kept b1) (HN.out.kept b1) (HA.out.kept b1) (HB.out.kept b1)).mono ?_
  rw [← HQ.out]
  rintro e w2 ⟨v2, rfl, hN2⟩
  have HR : Hid (New 5 w v2 q1 w2) := New.from hN2 b1
  clear hN2 c0 c1 c2
  go_wp2
  go_ret2
  exact ⟨_, rfl, HR.out⟩
end Go.Proofs.YtliiofjcghdjoaaDoor

/- What a cipher seals and opens: contracts of package sym, second part. -/
namespace Go.Proofs.YtliiofjcghdjoaaDoor
open Go.ChangeShapes Go.WideShapes Go.ChangeAt Go.RowKit
set_option linter.unusedSimpArgs false
set_option linter.unusedVariables false

/-- One step taken with the next number: the cipher then, what is told, an error. -/
def tkC (c : Cph) (b : List UInt8) (R : List UInt8 × Int) : Cph × List UInt8 × Int :=
  if c.key.length = 0 then (c, b, 0) else if c.key.length ≠ 32 then (c, [], 1) else if c.n = 18446744073709551615 then (c, [], 31) else if R.2 = 0 then (⟨c.key, c.n + 1⟩, R.1, 0) else (c, [], R.2)
theorem tkC_cases (c : Cph) (b : List UInt8) (R : List UInt8 × Int) : (c.key.length = 0 ∧ tkC c b R = (c, b, 0)) ∨ (c.key.length ≠ 0 ∧ c.key.length ≠ 32 ∧ tkC c b R = (c, [], 1)) ∨ (c.key.length = 32 ∧ c.n = 18446744073709551615 ∧ tkC c b R = (c, [], 31)) ∨ (c.key.length = 32 ∧ c.n ≠ 18446744073709551615 ∧ R.2 = 0 ∧ tkC c b R = (⟨c.key, c.n + 1⟩, R.1, 0)) ∨ (c.key.length = 32 ∧ c.n ≠ 18446744073709551615 ∧ R.2 ≠ 0 ∧ tkC c b R = (c, [], R.2)) := by
  unfold tkC
  by_cases h0 : c.key.length = 0
  · exact .inl ⟨h0, if_pos h0⟩
  · by_cases h1 : c.key.length = 32
    · by_cases h2 : c.n = 18446744073709551615
      · exact .inr (.inr (.inl ⟨h1, h2, by rw [if_neg h0, if_neg (by omega), if_pos h2]⟩))
      · by_cases h3 : R.2 = 0
        · exact .inr (.inr (.inr (.inl ⟨h1, h2, h3, by rw [if_neg h0, if_neg (by omega), if_neg h2, if_pos h3]⟩)))
        · exact .inr (.inr (.inr (.inr ⟨h1, h2, h3, by rw [if_neg h0, if_neg (by omega), if_neg h2, if_neg h3]⟩)))
    · exact .inr (.inl ⟨h0, h1, by rw [if_neg h0, if_pos h1]⟩)
theorem seC_tk (c : Cph) (a t : List UInt8) : seC c a t = tkC c t (seA c.key (ncL c.n) a t) := by
  unfold seC tkC
  split
  · rfl
  · split
    · rfl
    · split
      · rfl
      · rw [seA_fit ⟨by omega, ncL_length _⟩, if_pos rfl]
theorem opA_fit {k n : List UInt8} (h : fitN k n) (a s : List UInt8) : opA k n a s = opQ k n a s := if_pos h
theorem opC_tk (c : Cph) (a t : List UInt8) : opC c a t = tkC c t (opA c.key (ncL c.n) a t) := by
  unfold opC tkC
  split
  · rfl
  · split
    · rfl
    · split
      · rfl
      · rw [opA_fit ⟨by omega, ncL_length _⟩]

theorem RdL.lit1r {w : World} {e : TypeId} {v : Value} {l : List UInt8} {b : Nat} (hb : b = w.heap.size) (h1 : Rd w v l) : RdL (w.alloc (.cells #[v] e)) (.slice (some ⟨b, 0, none⟩) 1 1) [v] [l] :=
  RdL.lit _ _ rfl rfl hb (by simp [maxLen]) rfl (fun i hi => by
    match i with
    | 0 => exact h1
    | i + 1 => exact absurd hi (by simp))
theorem New.one16 {e : TypeId} {w w' : World} {v : Value} {l : List UInt8} (h : New e w v [l].flatten w') : New e w v l w' := by
  simpa using h
theorem cellT {w W : World} {p : Addr} {v : Value} (h : w.cell? p = some v) (hb : Below w.heap.size w W) : W.cell? p = some v := by
  rw [hb.cell (World.block_lt_of_cell? _ _ h)]
  exact h
theorem enters16 {f : FuncId} {fn : Func} {c : Code} (hf : Tryd.prog.funcs[f]? = some fn) (hn : (fn.name == "runtime.NumGoroutine") = false) (hb : fn.body = some c) (args : Array Value) (w : World) : (callFunc f args).run Tryd.prog w = .ok (.enter f args) w := enters_of hf hn hb args w

set_option maxRecDepth 100000 in
set_option maxHeartbeats 4000000 in
theorem ctake_any (K : FuncId) (hE : ∀ (args : Array Value) (w : World), (callFunc K args).run Tryd.prog w = .ok (.enter K args) w)
    (c : Cph) (hn : c.n < 18446744073709551616) (b : List UInt8) (hlb : b.length ≤ 3000000) (R : List UInt8 × Int) (g o : Nat) (bt : TypeId) (hbt : 5 ≠ bt) (pre post : List Value) (ho : pre.length = o) (ak aa : Option Addr) (ck la ca : Nat) (vb : Value) (w : World)
    (hB : BlkAt g bt (inB pre post (.slice ak c.key.length ck) c.n) w) (hk : Rd w (.slice ak c.key.length ck) c.key) (hb : Rd w vb b)
    (hK : ∀ W vn, Below w.heap.size w W → Rd W vn (ncL c.n) → Calls Tryd.prog K #[.agg #[.slice ak c.key.length ck, vn, .slice aa la ca], vb] W fun e w' => ∃ r, e = .returned (.tuple #[r, .int .i64 R.2]) ∧ New 5 W r R.1 w') :
    Calls Tryd.prog 38 #[.pointer (some ⟨g, o, none⟩), .func (.func K) #[] #[], .slice aa la ca, vb] w fun e w' => ∃ x, e = .returned (.tuple #[x, .int .i64 (tkC c b R).2.2]) ∧ Ow 5 w.heap.size x (tkC c b R).2.1 w' ∧ Chg (fun i => i = g) w w' ∧ BlkAt g bt (inB pre post (.slice ak c.key.length ck) (tkC c b R).1.n) w' := by
  have hcase := tkC_cases c b R
  obtain ⟨key, n⟩ := c
  obtain ⟨R1, R2⟩ := R
  generalize tkC ⟨key, n⟩ b (R1, R2) = T at hcase ⊢
  obtain ⟨-, -, -, hk2, hk3, -, -⟩ := id hk
  obtain ⟨ab, cb, rfl, -⟩ := id hb
  subst ho
  replace hB : BlkAt g bt (inB pre post (.slice ak key.length ck) n) w := hB
  have c0 : w.cell? ⟨g, pre.length, none⟩ = some (.slice ak key.length ck) := by rw [hB.cell]; exact inB_get0 _ _ _ _
  have c1 : w.cell? ⟨g, pre.length + 1, none⟩ = some (.int .u64 (n : Int)) := by rw [hB.cell]; exact inB_get1 _ _ _ _
  have HB : Hid (BlkAt g bt (inB pre post (.slice ak key.length ck) n) w) := hB
  have HBB : Hid (Rd w (.slice ab b.length cb) b) := hb
  have HK : Hid _ := hK
  have HN : Hid (n < 18446744073709551616) := hn
  have HLB : Hid (b.length ≤ 3000000) := hlb
  have HBT : Hid (5 ≠ bt) := hbt
  clear hB hb hK hn hlb hbt hk
  rcases hcase with ⟨h1, rfl⟩ | ⟨h1, h2, rfl⟩ | ⟨h1, h2, rfl⟩ | ⟨h1, h2, h3, rfl⟩ | ⟨h1, h2, h3, rfl⟩
  · have e1 : ((key.length : Int) == 0) = true := by rw [show key.length = 0 from h1]; rfl
    clear h1
    go_enter Tryd.func38, Tryd.ntmps38
    go_wp2_with fail
    refine (join_any _ _ _ _ (RdL.lit1r (e := 40) rfl HBB.out) (by have := HLB.out; simp [totL]; omega)).mono ?_
    rintro e w1 ⟨v1, rfl, hN1⟩
    have b1 := stepB (growB _) hN1.2
    have HO : Hid (Ow 5 w.heap.size v1 b w1) := Ow.mono (Ow.of_new hN1.one16) (by simp)
    clear hN1
    go_wp2
    go_ret2
    exact ⟨_, rfl, HO.out, Chg.of_below b1, HB.out.kept b1⟩
  · have h1' : key.length ≠ 0 := h1
    have h2' : key.length ≠ 32 := h2
    have e1 : ((key.length : Int) == 0) = false := by rw [beq_eq_false_iff_ne]; omega
    have e2 : ((key.length : Int) != 32) = true := by simp; omega
    clear h1 h2 h1' h2'
    go_enter Tryd.func38, Tryd.ntmps38
    go_wp2_with fail
    go_ret2
    exact ⟨_, rfl, Ow.nil _ _ _, Chg.refl _ _, HB.out⟩
  · have h1' : key.length = 32 := h1
    have h2' : n = 18446744073709551615 := h2
    have e1 : ((key.length : Int) == 0) = false := by rw [beq_eq_false_iff_ne]; omega
    have e2 : ((key.length : Int) != 32) = false := by simp; omega
    have e3 : ((n : Int) == 18446744073709551615) = true := by simp; omega
    clear h1 h2 h1' h2'
    go_enter Tryd.func38, Tryd.ntmps38
    go_wp2_with fail
    go_ret2
    exact ⟨_, rfl, Ow.nil _ _ _, Chg.refl _ _, HB.out⟩
  · have h1' : key.length = 32 := h1
    have h2' : n ≠ 18446744073709551615 := h2
    replace h3 : R2 = 0 := h3
    subst h3
    have e1 : ((key.length : Int) == 0) = false := by rw [beq_eq_false_iff_ne]; omega
    have e2 : ((key.length : Int) != 32) = false := by simp; omega
    have e3 : ((n : Int) == 18446744073709551615) = false := by simp; omega
    obtain ⟨m, hm⟩ : ∃ m : Nat, m = n + 1 := ⟨_, rfl⟩
    have HMm : Hid (m = n + 1) := hm
    have e4 : IntKind.u64.wrap ((n : Int) + 1) = (m : Int) := by rw [IntKind.wrap_u64]; have := HN.out; omega
    have e5 : ((n : Int) + 1) % 18446744073709551616 = (m : Int) := by have := HN.out; omega
    clear h1 h2 h1' h2' hm
    go_enter Tryd.func38, Tryd.ntmps38
    go_wp2_with fail
    refine (swith_any g pre.length ak aa key.length ck la ca n HN.out _ c0).mono ?_
    rintro e w1 ⟨vn, rfl, hvn, b1⟩
    have HV : Hid (Rd w1 vn (ncL n)) := hvn
    clear hvn c0
    go_wp2_with fail
    refine (HK.out _ _ b1 HV.out).mono ?_
    rintro e w2 ⟨v2, rfl, hN2⟩
    have b2 := stepB b1 hN2.2
    have hB2 := HB.out.kept b2
    have c1' : w2.cell? ⟨g, pre.length + 1, none⟩ = some (.int .u64 (n : Int)) := by rw [hB2.cell]; exact inB_get1 _ _ _ _
    have f1 : w2.frozen? ⟨g, pre.length + 1, none⟩ = false := hB2.free _
    have HO : Hid (Ow 5 w.heap.size v2 R1 w2) := Ow.mono (Ow.of_new hN2) b1.size
    have HB2 : Hid _ := hB2
    have HBw : Hid _ := b2
    clear hN2 hB2 b2 b1 c1 HV
    go_wp2_with fail
    go_ret2
    have hw : Wrote g w2 (w2.setCell ⟨g, pre.length + 1, none⟩ (.int .u64 (m : Int))) := Wrote.set _ _ _ _
    have hB3 := BlkAt.set HB2.out (pre.length + 1) (.int .u64 (m : Int))
    rw [inB_set] at hB3
    refine ⟨_, rfl, HO.out.chg HB2.out HBT.out (Chg.of_wrote hw), (Chg.of_below HBw.out).trans (Chg.of_wrote hw), ?_⟩
    rw [HMm.out] at hB3 ⊢
    exact hB3
  · have h1' : key.length = 32 := h1
    have h2' : n ≠ 18446744073709551615 := h2
    replace h3 : R2 ≠ 0 := h3
    have e1 : ((key.length : Int) == 0) = false := by rw [beq_eq_false_iff_ne]; omega
    have e2 : ((key.length : Int) != 32) = false := by simp; omega
    have e3 : ((n : Int) == 18446744073709551615) = false := by simp; omega
    have e6 : (R2 != 0) = true := by simpa using h3
    clear h1 h2 h1' h2' h3
    go_enter Tryd.func38, Tryd.ntmps38
    go_wp2_with fail
    refine (swith_any g pre.length ak aa key.length ck la ca n HN.out _ c0).mono ?_
    rintro e w1 ⟨vn, rfl, hvn, b1⟩
    have HV : Hid (Rd w1 vn (ncL n)) := hvn
    clear hvn c0
    go_wp2_with fail
    refine (HK.out _ _ b1 HV.out).mono ?_
    rintro e w2 ⟨v2, rfl, hN2⟩
    have b2 := stepB b1 hN2.2
    have HBw : Hid _ := b2
    clear hN2 b2 b1 c1 HV
    go_wp2_with fail
    go_ret2
    exact ⟨_, rfl, Ow.nil _ _ _, Chg.of_below HBw.out, HB.out.kept HBw.out⟩

set_option maxRecDepth 100000 in
set_option maxHeartbeats 2000000 in
theorem cseal_any (c : Cph) (hn : c.n < 18446744073709551616) (ad t : List UInt8) (hla : ad.length ≤ 3000000) (hlt : t.length ≤ 3000000) (g o : Nat) (bt : TypeId) (hbt : 5 ≠ bt) (pre post : List Value) (ho : pre.length = o) (ak : Option Addr) (ck : Nat) (va vt : Value) (w : World)
    (hB : BlkAt g bt (inB pre post (.slice ak c.key.length ck) c.n) w) (hk : Rd w (.slice ak c.key.length ck) c.key) (ha : Rd w va ad) (ht : Rd w vt t) (hP : PlT w) (hT : KpT w) :
    Calls Tryd.prog 29 #[.pointer (some ⟨g, o, none⟩), va, vt] w fun e w' => ∃ x, e = .returned (.tuple #[x, .int .i64 (seC c ad t).2.2]) ∧ Ow 5 w.heap.size x (seC c ad t).2.1 w' ∧ Chg (fun i => i = g) w w' ∧ BlkAt g bt (inB pre post (.slice ak c.key.length ck) (seC c ad t).1.n) w' := by
  rw [seC_tk]
  obtain ⟨aa, ca, rfl, -⟩ := id ha
  have HT : Hid _ := ctake_any 39 (enters16 rfl (by kernel_rfl) rfl) c hn t hlt (seA c.key (ncL c.n) ad t) g o bt hbt pre post ho ak aa ck ad.length ca vt w hB hk ht
    fun W vn bW hvn => stepSeal_any _ _ _ _ c.key (ncL c.n) ad t hla hlt W (hP.kept bW) (hT.kept bW) (hk.kept bW) hvn (ha.kept bW) (ht.kept bW)
  generalize tkC c t (seA c.key (ncL c.n) ad t) = T at HT ⊢
  obtain ⟨c', X, E⟩ := T
  clear hB hk ha ht hP hT hla hlt hn
  go_enter Tryd.func29, Tryd.ntmps29
  go_wp2_with fail
  refine Calls.mono HT.out ?_
  rintro e w1 ⟨x, rfl, h1, h2, h3⟩
  have H1 : Hid _ := h1
  have H2 : Hid _ := h2
  have H3 : Hid _ := h3
  clear h1 h2 h3
  go_wp2
  go_ret2
  exact ⟨_, rfl, H1.out, H2.out, H3.out⟩

set_option maxRecDepth 100000 in
set_option maxHeartbeats 2000000 in
theorem copen_any (c : Cph) (hn : c.n < 18446744073709551616) (ad t : List UInt8) (hla : ad.length ≤ 3000000) (hlt : t.length ≤ 3000000) (g o : Nat) (bt : TypeId) (hbt : 5 ≠ bt) (pre post : List Value) (ho : pre.length = o) (ak : Option Addr) (ck : Nat) (va vt : Value) (w : World)
    (hB : BlkAt g bt (inB pre post (.slice ak c.key.length ck) c.n) w) (hk : Rd w (.slice ak c.key.length ck) c.key) (ha : Rd w va ad) (ht : Rd w vt t) (hP : PlT w) (hT : KpT w) :
    Calls Tryd.prog 33 #[.pointer (some ⟨g, o, none⟩), va, vt] w fun e w' => ∃ x, e = .returned (.tuple #[x, .int .i64 (opC c ad t).2.2]) ∧ Ow 5 w.heap.size x (opC c ad t).2.1 w' ∧ Chg (fun i => i = g) w w' ∧ BlkAt g bt (inB pre post (.slice ak c.key.length ck) (opC c ad t).1.n) w' := by
  rw [opC_tk]
  obtain ⟨aa, ca, rfl, -⟩ := id ha
  have HT : Hid _ := ctake_any 43 (enters16 rfl (by kernel_rfl) rfl) c hn t hlt (opA c.key (ncL c.n) ad t) g o bt hbt pre post ho ak aa ck ad.length ca vt w hB hk ht
    fun W vn bW hvn => stepOpen_any _ _ _ _ c.key (ncL c.n) ad t hla hlt W (hP.kept bW) (hT.kept bW) (hk.kept bW) hvn (ha.kept bW) (ht.kept bW)
  generalize tkC c t (opA c.key (ncL c.n) ad t) = T at HT ⊢
  obtain ⟨c', X, E⟩ := T
  clear hB hk ha ht hP hT hla hlt hn
  go_enter Tryd.func33, Tryd.ntmps33
  go_wp2_with fail
  refine Calls.mono HT.out ?_
  rintro e w1 ⟨x, rfl, h1, h2, h3⟩
  have H1 : Hid _ := h1
  have H2 : Hid _ := h2
  have H3 : Hid _ := h3
  clear h1 h2 h3
  go_wp2
  go_ret2
  exact ⟨_, rfl, H1.out, H2.out, H3.out⟩
end Go.Proofs.YtliiofjcghdjoaaDoor

/- Sealing: contracts of package session, fifth part. -/
namespace Go.Proofs.YtliiofjcghdjoaaDoor
open Go.ChangeShapes Go.WideShapes Go.ChangeAt Go.RowKit
set_option linter.unusedSimpArgs false
set_option linter.unusedVariables false

set_option maxRecDepth 100000 in
set_option maxHeartbeats 8000000 in
theorem zseal_any (g : Nat) (r : Rl) (hr : RlW r) (s : Ses) (vt : Value) (t : List UInt8) (hlt : t.length ≤ 3000000) (now : Nat) (hnow : now < 18446744073709551616) (w : World) (h : SnP g r s w) (ht : Rd w vt t) (hP : PlT w) (hT : KpT w) :
    Calls Tryd.prog 17 #[.pointer (some ⟨g, 0, none⟩), vt, .int .u64 (now : Int)] w fun e w' => ∃ x, e = .returned (.tuple #[.int .u64 (((ssS r s t now).2.1 : Nat) : Int), x, .int .i64 (ssS r s t now).2.2.2]) ∧ Ow 5 w.heap.size x (ssS r s t now).2.2.1 w' ∧ SnP g r (ssS r s t now).1 w' ∧ Chg (fun i => i = g) w w' := by
  have HOk := ssS_ok (t := t) (now := now) hr h.ok
  have HX : Hid (Calls Tryd.prog 24 #[.pointer (some ⟨g, 0, none⟩), .int .u64 (now : Int)] w fun e w' => e = .returned (.bool (exB r s now)) ∧ Below w.heap.size w w') := cexpired_any g r s now hnow w h
  have HS : Hid (SnP g r s w) := h
  have HG : Hid (ssS r s t now = if exB r s now = true then (s, 0, [], 52) else if (seC s.snd [] t).2.2 ≠ 0 then (s, 0, [], (seC s.snd [] t).2.2) else (⟨(seC s.snd [] t).1, s.rcv, s.born, s.sent + 1, s.came⟩, s.snd.n, (seC s.snd [] t).2.1, 0)) := rfl
  have HSe : exB r s now = false → s.sent + 1 < 18446744073709551616 := exB_sent hr
  have HI : Hid (Rd w vt t ∧ PlT w ∧ KpT w ∧ t.length ≤ 3000000) := ⟨ht, hP, hT, hlt⟩
  obtain ⟨at', ct, rfl, -⟩ := id ht
  obtain ⟨G, hGe⟩ : ∃ G, G = ssS r s t now := ⟨_, rfl⟩
  rw [← hGe] at HG HOk ⊢
  have HK : Hid (SesW G.1) := HOk
  clear hGe HOk hr hlt hnow h ht hP hT
  by_cases hx : exB r s now = true
  · rw [hx] at HX
    have hG : G = (s, 0, [], 52) := by rw [HG.out, if_pos hx]
    subst hG
    clear hx HG HSe
    go_enter Tryd.func17, Tryd.ntmps17
    go_wp2_with fail
    refine Calls.mono HX.out ?_
    rintro e w1 ⟨rfl, b1⟩
    have HB : Hid (Below w.heap.size w w1) := b1
    clear b1 HX
    go_wp2
    go_ret3
    exact ⟨_, rfl, Ow.nil _ _ _, HS.out.kept HB.out, Chg.of_below HB.out⟩
  · have hxf : exB r s now = false := by simpa using hx
    rw [hxf] at HX
    have hse := HSe hxf
    obtain ⟨q, hq⟩ : ∃ q, q = seC s.snd [] t := ⟨_, rfl⟩
    have HE : Hid (q.2.2 ≠ 0 → q.1 = s.snd) := fun h => by rw [hq] at h ⊢; exact seC_err h
    have HKy : Hid (q.1.key = s.snd.key) := (by rw [hq]; exact seC_kept _ _ _ : q.1.key = s.snd.key)
    have HSl : Hid (∀ (W : World) (a1 : Option Addr) (c1 : Nat) (pre post : List Value), pre.length = 7 → Below w.heap.size w W → BlkAt g 80 (inB pre post (.slice a1 s.snd.key.length c1) s.snd.n) W → Rd W (.slice a1 s.snd.key.length c1) s.snd.key →
        Calls Tryd.prog 29 #[.pointer (some ⟨g, 7, none⟩), .slice none 0 0, .slice at' t.length ct] W fun e w' => ∃ x, e = .returned (.tuple #[x, .int .i64 q.2.2]) ∧ Ow 5 W.heap.size x q.2.1 w' ∧ Chg (fun i => i = g) W w' ∧ BlkAt g 80 (inB pre post (.slice a1 s.snd.key.length c1) q.1.n) w') := fun W a1 c1 pre post hp hW hB hk => by
      rw [hq]
      exact cseal_any s.snd HS.out.ok.sn [] t (by simp) HI.out.2.2.2 g 7 80 (by decide) pre post hp a1 c1 _ _ W hB hk (Rd.nil W) (HI.out.1.kept hW) (HI.out.2.1.kept hW) (HI.out.2.2.1.kept hW)
    rw [← hq, if_neg hx] at HG
    obtain ⟨⟨qk, qn⟩, qt, qe⟩ := q
    simp only at HG HE HKy HSl
    obtain ⟨a1, c1, a2, c2, a, b, hw, hT64, hB, hk1, hk2⟩ := HS.out.mem
    have HM : Hid (Wn s.came a b ∧ tpN s.came < 18446744073709551616 ∧ BlkAt g 80 (snC r (.slice a1 s.snd.key.length c1) (.slice a2 s.rcv.key.length c2) s.snd.n (tpN s.came) a b s.born s.sent) w ∧ Rd w (.slice a1 s.snd.key.length c1) s.snd.key ∧ Rd w (.slice a2 s.rcv.key.length c2) s.rcv.key) := ⟨hw, hT64, hB, hk1, hk2⟩
    clear hx hxf hq HSe hw hT64 hB hk1 hk2
    go_enter Tryd.func17, Tryd.ntmps17
    go_wp2_with fail
    refine Calls.mono HX.out ?_
    rintro e w1 ⟨rfl, b1⟩
    have HB : Hid (Below w.heap.size w w1) := b1
    have c8 : w1.cell? ⟨g, 8, none⟩ = some (.int .u64 (s.snd.n : Int)) := (HM.out.2.2.1.kept b1).cell 8
    clear b1 HX
    go_wp2_with fail
    refine (HSl.out w1 a1 c1 [.int .u64 (r.retry : Int), .int .u64 (r.rmax : Int), .int .i64 r.tries, .int .u64 (r.rekey : Int), .int .u64 (r.expire : Int), .int .u64 (r.rcount : Int), .int .u64 (r.ecount : Int)] [.slice a2 s.rcv.key.length c2, .int .u64 ((tpN s.came : Nat) : Int), .int .u64 (a : Int), .int .u64 (b : Int), .int .u64 (s.born : Int), .int .u64 (s.sent : Int)] rfl HB.out (HM.out.2.2.1.kept HB.out) (HM.out.2.2.2.1.kept HB.out)).mono ?_
    rintro e w2 ⟨x, rfl, hO, hC, hB2⟩
    have hB2' : BlkAt g 80 (snC r (.slice a1 s.snd.key.length c1) (.slice a2 s.rcv.key.length c2) qn (tpN s.came) a b s.born s.sent) w2 := hB2
    have hr1 : Rd w2 (.slice a1 s.snd.key.length c1) s.snd.key := (HM.out.2.2.2.1.kept HB.out).past16 (HM.out.2.2.1.kept HB.out) (snC_no8 _ _ _ _ _ _ _ _ _ _ _ _ _) hC
    have hr2 : Rd w2 (.slice a2 s.rcv.key.length c2) s.rcv.key := (HM.out.2.2.2.2.kept HB.out).past16 (HM.out.2.2.1.kept HB.out) (snC_no8 _ _ _ _ _ _ _ _ _ _ _ _ _) hC
    have hOw : Ow 5 w.heap.size x qt w2 := hO.mono HB.out.size
    have hCg : Chg (fun i => i = g) w w2 := (Chg.of_below HB.out).trans hC
    have HB2 : Hid (BlkAt g 80 (snC r (.slice a1 s.snd.key.length c1) (.slice a2 s.rcv.key.length c2) qn (tpN s.came) a b s.born s.sent) w2 ∧ Rd w2 (.slice a1 s.snd.key.length c1) s.snd.key ∧ Rd w2 (.slice a2 s.rcv.key.length c2) s.rcv.key ∧ Ow 5 w.heap.size x qt w2 ∧ Chg (fun i => i = g) w w2) := ⟨hB2', hr1, hr2, hOw, hCg⟩
    have c14 : w2.cell? ⟨g, 14, none⟩ = some (.int .u64 (s.sent : Int)) := hB2'.cell 14
    have f14 := hB2'.free 14
    clear hB2 hB2' hr1 hr2 hOw hCg hO hC HSl HB c8
    by_cases he : qe = 0
    · subst he
      have hG : G = (⟨⟨qk, qn⟩, s.rcv, s.born, s.sent + 1, s.came⟩, s.snd.n, qt, 0) := by rw [HG.out]; exact if_neg (by simp)
      subst hG
      obtain ⟨m, hm⟩ : ∃ m, m = s.sent + 1 := ⟨_, rfl⟩
      have e1 : IntKind.u64.wrap ((s.sent : Int) + 1) = (m : Int) := by rw [IntKind.wrap_u64]; omega
      have HMm : Hid (m = s.sent + 1) := hm
      clear hm hse HG HE
      go_wp2_with fail
      go_ret3
      have hB3 := HB2.out.1.set 14 (.int .u64 (m : Int))
      have hc3 : Chg (fun i => i = g) w2 (w2.setCell ⟨g, 14, none⟩ (.int .u64 (m : Int))) := Chg.of_wrote (Wrote.set g 14 w2 (.int .u64 (m : Int)))
      have hky : qk = s.snd.key := HKy.out
      subst hky
      refine ⟨_, rfl, HB2.out.2.2.2.1.chg HB2.out.1 (by decide) hc3, ⟨HK.out, a1, c1, a2, c2, a, b, HM.out.1, HM.out.2.1, ?_, HB2.out.2.1.past16 HB2.out.1 (snC_no8 _ _ _ _ _ _ _ _ _ _ _ _ _) hc3, HB2.out.2.2.1.past16 HB2.out.1 (snC_no8 _ _ _ _ _ _ _ _ _ _ _ _ _) hc3⟩, HB2.out.2.2.2.2.trans hc3⟩
      show BlkAt g _ (snC r _ _ qn (tpN s.came) a b s.born (s.sent + 1)) _
      rw [← HMm.out]
      exact hB3
    · have hG : G = (s, 0, [], qe) := by rw [HG.out]; exact if_pos he
      subst hG
      have hqn : qn = s.snd.n := congrArg Cph.n (HE.out he)
      subst hqn
      have e6 : (qe != 0) = true := by simpa using he
      clear HG HE hse he
      go_wp2_with fail
      go_ret3
      exact ⟨_, rfl, Ow.nil _ _ _, ⟨HK.out, a1, c1, a2, c2, a, b, HM.out.1, HM.out.2.1, HB2.out.1, HB2.out.2.1, HB2.out.2.2.1⟩, HB2.out.2.2.2.2⟩
end Go.Proofs.YtliiofjcghdjoaaDoor

/- Opening, and what is none: contracts of package session, sixth part. -/
namespace Go.Proofs.YtliiofjcghdjoaaDoor
open Go.ChangeShapes Go.WideShapes Go.ChangeAt Go.RowKit
set_option linter.unusedSimpArgs false
set_option linter.unusedVariables false

theorem alloc_cph (w : World) : (Instr.alloc 46 true (.tuple #[])).run Tryd.prog w = .ok (.pointer (some ⟨w.heap.size, 0, none⟩)) (w.alloc (.cells [Value.slice none 0 0, .int .u64 0].toArray 46)) := by kernel_rfl
theorem build_cph (a : Option Addr) (l c n : Nat) (w : World) : (Instr.build 46 #[(0, .slice a l c), (1, .int .u64 (n : Int))]).run Tryd.prog w = .ok (.agg [Value.slice a l c, .int .u64 (n : Int)].toArray) w := by kernel_rfl
theorem info_cph2 : (Tryd.prog.info? 46).map (·.size) = some 2 := by kernel_rfl
theorem one_cph (a : Option Addr) (l c n : Nat) : [Value.slice a l c, .int .u64 (n : Int)].toArray.all (·.oneCell') = true := by kernel_rfl
/-- The cells beside the window. -/
def snF (r : Rl) (v1 v2 : Value) (n born sent : Nat) (i : Nat) : Value := (snC r v1 v2 n 0 0 0 born sent).getD i undef
theorem snF_wi (r : Rl) (v1 v2 : Value) (n T a b born sent : Nat) : snC r v1 v2 n T a b born sent = wiC (snF r v1 v2 n born sent) T a b := rfl

set_option maxRecDepth 100000 in
set_option maxHeartbeats 8000000 in
theorem zopen_any (g : Nat) (r : Rl) (s : Ses) (n : Nat) (hn : n < 18446744073709551616) (vb : Value) (b : List UInt8) (hlb : b.length ≤ 3000000) (now : Nat) (hnow : now < 18446744073709551616) (w : World) (h : SnP g r s w) (hb : Rd w vb b) (hP : PlT w) (hT : KpT w) :
    Calls Tryd.prog 19 #[.pointer (some ⟨g, 0, none⟩), .int .u64 (n : Int), vb, .int .u64 (now : Int)] w fun e w' => ∃ x, e = .returned (.tuple #[x, .int .i64 (ssO r s n b now).2.2]) ∧ Ow 5 w.heap.size x (ssO r s n b now).2.1 w' ∧ SnP g r (ssO r s n b now).1 w' ∧ Chg (fun i => i = g) w w' := by
  have HOk := ssO_ok (r := r) (b := b) (now := now) h.ok hn
  have HX : Hid (Calls Tryd.prog 31 #[.pointer (some ⟨g, 0, none⟩), .int .u64 (now : Int)] w fun e w' => e = .returned (.bool (decide (r.expire ≤ snN s.born now))) ∧ Below w.heap.size w w') := cold_any g r s now hnow w h
  have HS : Hid (SnP g r s w) := h
  have HG : Hid (ssO r s n b now = if r.expire ≤ snN s.born now then (s, [], 52) else if cmE s.came n ≠ 0 then (s, [], cmE s.came n) else if (opC ⟨s.rcv.key, n⟩ [] b).2.2 ≠ 0 then (s, [], (opC ⟨s.rcv.key, n⟩ [] b).2.2) else (⟨s.snd, s.rcv, s.born, s.sent, (mkL s.came n).1⟩, (opC ⟨s.rcv.key, n⟩ [] b).2.1, 0)) := rfl
  have HI : Hid (Rd w vb b ∧ PlT w ∧ KpT w ∧ b.length ≤ 3000000) := ⟨hb, hP, hT, hlb⟩
  have HN : Hid (n < 18446744073709551616) := hn
  obtain ⟨ab, cb, rfl, -⟩ := id hb
  obtain ⟨G, hGe⟩ : ∃ G, G = ssO r s n b now := ⟨_, rfl⟩
  rw [← hGe] at HG HOk ⊢
  have HK : Hid (SesW G.1) := HOk
  clear hGe HOk hlb hnow h hb hP hT hn
  by_cases hx : r.expire ≤ snN s.born now
  · rw [decide_eq_true hx] at HX
    have hG : G = (s, [], 52) := by rw [HG.out, if_pos hx]
    subst hG
    clear hx HG
    go_enter Tryd.func19, Tryd.ntmps19
    go_wp2_with fail
    refine Calls.mono HX.out ?_
    rintro e w1 ⟨rfl, b1⟩
    have HB : Hid (Below w.heap.size w w1) := b1
    clear b1 HX
    go_wp2
    go_ret2
    exact ⟨_, rfl, Ow.nil _ _ _, HS.out.kept HB.out, Chg.of_below HB.out⟩
  · rw [decide_eq_false hx] at HX
    rw [if_neg hx] at HG
    obtain ⟨a1, c1, a2, c2, x, y, hw, hT64, hB, hk1, hk2⟩ := HS.out.mem
    have HM : Hid (Wn s.came x y ∧ tpN s.came < 18446744073709551616 ∧ BlkAt g 80 (snC r (.slice a1 s.snd.key.length c1) (.slice a2 s.rcv.key.length c2) s.snd.n (tpN s.came) x y s.born s.sent) w ∧ Rd w (.slice a1 s.snd.key.length c1) s.snd.key ∧ Rd w (.slice a2 s.rcv.key.length c2) s.rcv.key) := ⟨hw, hT64, hB, hk1, hk2⟩
    obtain ⟨f, hf⟩ : ∃ f, f = snF r (.slice a1 s.snd.key.length c1) (.slice a2 s.rcv.key.length c2) s.snd.n s.born s.sent := ⟨_, rfl⟩
    have HF : Hid (∀ T a b, wiC f T a b = snC r (.slice a1 s.snd.key.length c1) (.slice a2 s.rcv.key.length c2) s.snd.n T a b s.born s.sent) := fun T a b => by rw [hf]; exact (snF_wi ..).symm
    have HCk : Hid (∀ W, Below w.heap.size w W → Calls Tryd.prog 32 #[.pointer (some ⟨g, 10, none⟩), .int .u64 (n : Int)] W fun e w' => e = .returned (.int .i64 (cmE s.came n)) ∧ w' = W) := fun W hW => wcheck22_any f g s.came n _ rfl HN.out W ⟨x, y, HM.out.1, HM.out.2.1, by rw [HF.out]; exact HM.out.2.2.1.kept hW⟩
    have HMk : Hid (∀ W, Below w.heap.size w W → Calls Tryd.prog 34 #[.pointer (some ⟨g, 10, none⟩), .int .u64 (n : Int)] W fun e w' => e = .returned (.int .i64 (mkL s.came n).2) ∧ WnP22 g f (mkL s.came n).1 w' ∧ Chg (fun i => i = g) W w') := fun W hW => wmark22_any f g s.came n _ rfl HN.out W ⟨x, y, HM.out.1, HM.out.2.1, by rw [HF.out]; exact HM.out.2.2.1.kept hW⟩
    obtain ⟨ck, hck⟩ : ∃ ck, ck = cmE s.came n := ⟨_, rfl⟩
    rw [← hck] at HG HCk
    clear hx hf hw hT64 hB hk1 hk2 hck
    by_cases h1 : ck = 0
    · subst h1
      rw [if_neg (by simp)] at HG
      obtain ⟨q, hq⟩ : ∃ q, q = opC ⟨s.rcv.key, n⟩ [] b := ⟨_, rfl⟩
      have HOp : Hid (∀ (W : World) (k : Nat), Below w.heap.size w W → BlkAt k 46 [Value.slice a2 s.rcv.key.length c2, .int .u64 (n : Int)] W →
          Calls Tryd.prog 33 #[.pointer (some ⟨k, 0, none⟩), .slice none 0 0, .slice ab b.length cb] W fun e w' => ∃ x, e = .returned (.tuple #[x, .int .i64 q.2.2]) ∧ Ow 5 W.heap.size x q.2.1 w' ∧ Chg (fun i => i = k) W w') := fun W k hW hB => by
        rw [hq]
        refine (copen_any ⟨s.rcv.key, n⟩ HN.out [] b (by simp) HI.out.2.2.2 k 0 46 (by decide) [] [] rfl a2 c2 _ _ W hB (HM.out.2.2.2.2.kept hW) (Rd.nil W) (HI.out.1.kept hW) (HI.out.2.1.kept hW) (HI.out.2.2.1.kept hW)).mono ?_
        rintro e w' ⟨x, rfl, h1, h2, -⟩
        exact ⟨x, rfl, h1, h2⟩
      rw [← hq] at HG
      obtain ⟨⟨qk, qn⟩, qt, qe⟩ := q
      simp only at HG HOp
      clear hq
      go_enter Tryd.func19, Tryd.ntmps19
      go_wp2_with fail
      refine Calls.mono HX.out ?_
      rintro e w1 ⟨rfl, b1⟩
      have HB : Hid (Below w.heap.size w w1) := b1
      clear b1 HX
      go_wp2_with fail
      refine (HCk.out w1 HB.out).mono ?_
      rintro e w2 ⟨rfl, rfl⟩
      have c9 : w2.cell? ⟨g, 9, none⟩ = some (.slice a2 s.rcv.key.length c2) := (HM.out.2.2.1.kept HB.out).cell 9
      clear HCk
      go_wp2_with (first | refine wpList_buildB rfl 46 _ rfl #[(0, .slice a2 s.rcv.key.length c2), (1, .int .u64 (n : Int))] (by go_simp; done) _ (build_cph _ _ _ _ _) ?_ | refine wpList_alloc_blk rfl 46 rfl [Value.slice none 0 0, .int .u64 0] (alloc_cph _) ?_)
      intro w3 r3 b3 s3
      obtain ⟨k, hk⟩ : ∃ k, k = w2.heap.size := ⟨_, rfl⟩
      rw [← hk] at r3 ⊢
      have HR3 : Hid (BlkAt k 46 [Value.slice none 0 0, .int .u64 0] w3 ∧ Below w2.heap.size w2 w3 ∧ w2.heap.size ≤ k) := ⟨r3, b3, by omega⟩
      clear r3 b3 s3 hk c9
      go_wp2_with (first | refine wpList_buildB rfl 46 _ rfl #[(0, .slice a2 s.rcv.key.length c2), (1, .int .u64 (n : Int))] (by go_simp; done) _ (build_cph _ _ _ _ _) ?_ | refine wpList_store_part rfl 46 _ _ rfl rfl [Value.slice a2 s.rcv.key.length c2, .int .u64 (n : Int)] rfl [] [Value.slice none 0 0, .int .u64 0] [] [Value.slice a2 s.rcv.key.length c2, .int .u64 (n : Int)] HR3.out.1 rfl rfl rfl rfl info_cph2 (one_cph _ _ _ _) ?_)
      intro w4 r4 hw4
      have HR4 : Hid (BlkAt k 46 [Value.slice a2 s.rcv.key.length c2, .int .u64 (n : Int)] w4 ∧ Below w.heap.size w w4 ∧ w.heap.size ≤ k) := ⟨r4, stepB HB.out (hw4.below _ _ HR3.out.2.2 HR3.out.2.1), Nat.le_trans HB.out.size HR3.out.2.2⟩
      clear r4 hw4 HR3
      go_wp2_with fail
      refine (HOp.out w4 k HR4.out.2.1 HR4.out.1).mono ?_
      rintro e w5 ⟨z, rfl, hO, hC⟩
      have hB5 : Below w.heap.size w w5 := Chg.gone HR4.out.2.1 hC HR4.out.2.1.size HR4.out.2.2
      have HO5 : Hid (Ow 5 w.heap.size z qt w5 ∧ Below w.heap.size w w5) := ⟨hO.mono HR4.out.2.1.size, hB5⟩
      clear hO hC hB5 HOp HR4 HB
      by_cases he : qe = 0
      · subst he
        have hG : G = (⟨s.snd, s.rcv, s.born, s.sent, (mkL s.came n).1⟩, qt, 0) := by rw [HG.out]; exact if_neg (by simp)
        subst hG
        clear HG
        go_wp2_with fail
        refine (HMk.out w5 HO5.out.2).mono ?_
        rintro e w6 ⟨rfl, hW6, hC6⟩
        have HW6 : Hid (WnP22 g f (mkL s.came n).1 w6 ∧ Chg (fun i => i = g) w5 w6) := ⟨hW6, hC6⟩
        clear hW6 hC6 HMk
        go_wp2
        go_ret2
        obtain ⟨x', y', hwn, ht, hbl⟩ := HW6.out.1
        rw [HF.out] at hbl
        have hb5 := HM.out.2.2.1.kept HO5.out.2
        exact ⟨_, rfl, HO5.out.1.chg hb5 (by decide) HW6.out.2, ⟨HK.out, a1, c1, a2, c2, x', y', hwn, ht, hbl, (HM.out.2.2.2.1.kept HO5.out.2).past16 hb5 (snC_no8 _ _ _ _ _ _ _ _ _ _ _ _ _) HW6.out.2, (HM.out.2.2.2.2.kept HO5.out.2).past16 hb5 (snC_no8 _ _ _ _ _ _ _ _ _ _ _ _ _) HW6.out.2⟩, (Chg.of_below HO5.out.2).trans HW6.out.2⟩
      · have hG : G = (s, [], qe) := by rw [HG.out]; exact if_pos he
        subst hG
        have e6 : (qe != 0) = true := by simpa using he
        clear HG he
        go_wp2_with fail
        go_ret2
        exact ⟨_, rfl, Ow.nil _ _ _, HS.out.kept HO5.out.2, Chg.of_below HO5.out.2⟩
    · have hG : G = (s, [], ck) := by rw [HG.out]; exact if_pos h1
      subst hG
      have e6 : (ck != 0) = true := by simpa using h1
      clear HG h1
      go_enter Tryd.func19, Tryd.ntmps19
      go_wp2_with fail
      refine Calls.mono HX.out ?_
      rintro e w1 ⟨rfl, b1⟩
      have HB : Hid (Below w.heap.size w w1) := b1
      clear b1 HX
      go_wp2_with fail
      refine (HCk.out w1 HB.out).mono ?_
      rintro e w2 ⟨rfl, rfl⟩
      clear HCk
      go_wp2
      go_ret2
      exact ⟨_, rfl, Ow.nil _ _ _, HS.out.kept HB.out, Chg.of_below HB.out⟩

/-- Of none. -/
theorem zseal_none (vt : Value) (N : Int) (w : World) : Calls Tryd.prog 17 #[.pointer none, vt, .int .u64 N] w fun e w' => e = .returned (.tuple #[.int .u64 0, .slice none 0 0, .int .i64 1]) ∧ w' = w := by
  go_enter Tryd.func17, Tryd.ntmps17
  go_wp2
  go_ret3
  exact ⟨rfl, rfl⟩
theorem zopen_none (M : Int) (vb : Value) (N : Int) (w : World) : Calls Tryd.prog 19 #[.pointer none, .int .u64 M, vb, .int .u64 N] w fun e w' => e = .returned (.tuple #[.slice none 0 0, .int .i64 1]) ∧ w' = w := by
  go_enter Tryd.func19, Tryd.ntmps19
  go_wp2
  go_ret2
  exact ⟨rfl, rfl⟩
theorem csent_none (w : World) : Calls Tryd.prog 21 #[.pointer none] w fun e w' => e = .returned (.int .u64 0) ∧ w' = w := by
  go_enter Tryd.func21, Tryd.ntmps21
  go_wp2
  go_ret
  exact ⟨rfl, rfl⟩
theorem crekey_none (N : Int) (w : World) : Calls Tryd.prog 22 #[.pointer none, .int .u64 N] w fun e w' => e = .returned (.bool true) ∧ Below w.heap.size w w' := by
  go_enter Tryd.func22, Tryd.ntmps22
  go_wp2_with (go_quiet (fail))
  go_ret
  exact ⟨rfl, below_drewN22 (Below.refl _ _) _⟩
theorem cexpired_none (N : Int) (w : World) : Calls Tryd.prog 24 #[.pointer none, .int .u64 N] w fun e w' => e = .returned (.bool true) ∧ Below w.heap.size w w' := by
  go_enter Tryd.func24, Tryd.ntmps24
  go_wp2_with (go_quiet (fail))
  go_ret
  exact ⟨rfl, below_drewN22 (Below.refl _ _) _⟩
theorem cdue_none (N : Int) (w : World) : Calls Tryd.prog 13 #[.pointer none, .int .u64 N] w fun e w' => e = .returned (.bool false) ∧ Below w.heap.size w w' := by
  go_enter Tryd.func13, Tryd.ntmps13
  go_wp2_with (go_quiet (fail))
  go_ret
  exact ⟨rfl, below_drewN22 (Below.refl _ _) _⟩
theorem cagain_none (N : Int) (w : World) : Calls Tryd.prog 15 #[.pointer none, .int .u64 N] w fun e w' => e = .returned (.bool false) ∧ Below w.heap.size w w' := by
  go_enter Tryd.func15, Tryd.ntmps15
  go_wp2_with (go_quiet (fail))
  go_wp2
  go_ret
  exact ⟨rfl, below_drewN22 (Below.refl _ _) _⟩
end Go.Proofs.YtliiofjcghdjoaaDoor

/- That the program is awake: waits, and a text that goes over. -/
namespace Go.Proofs.YtliiofjcghdjoaaDoor
open Go.ChangeShapes Go.WideShapes Go.ChangeAt Go.RowKit
set_option linter.unusedSimpArgs false
set_option linter.unusedVariables false

/-- A constant string's bytes: a new row, marked behind its end. -/
theorem Rd.marked22 {w : World} {e : TypeId} {fr : Nat × Nat} (l : List UInt8) {cs : Array Value} {n b : Nat} (h : cs = (l.map bv).toArray) (hn : n = l.length) (hb : b = w.heap.size) (hm : l.length ≤ maxLen) : Rd (w.alloc (.cells cs e fr)) (.slice (some ⟨b, 0, none⟩) n n) l := by
  subst h hn hb
  refine ⟨_, _, rfl, Nat.le_refl _, hm, (fun h => by cases h), .inr ⟨_, 0, rfl, fun i hi => ?_⟩⟩
  have hh : (w.alloc (.cells (l.map bv).toArray e fr)).heap[w.heap.size]? = some (.cells (l.map bv).toArray e fr) := by
    show (w.heap.push _)[w.heap.size]? = _
    simp
  unfold World.cell?
  rw [hh]
  simp [hi, bv]
theorem convS22 {w : World} {v : Value} {l : List UInt8} (h : Rd w v l) : (convert 40 9 v).run Tryd.prog w = .ok (.string ⟨l.toArray⟩) w := h.conv Tryd.underlying40 Tryd.underlying5 Tryd.underlying9
def rl22 : Rl := ⟨5, 30, 2, 50, 100, 5, 9⟩
theorem rl22_ok : RlW rl22 := ⟨by decide, by decide, by decide, by decide, by decide, by decide, by decide⟩
def z32 : List UInt8 := List.replicate 32 0
def tx22 : List UInt8 := [116, 101, 120, 116]
def bx22 : List UInt8 := (seC ⟨z32, 0⟩ [] tx22).2.1
def se22a : Ses := ⟨⟨z32, 0⟩, ⟨z32, 0⟩, 0, 0, []⟩
def se22b : Ses := ⟨⟨z32, 1⟩, ⟨z32, 0⟩, 0, 1, []⟩
def se22c : Ses := ⟨⟨z32, 1⟩, ⟨z32, 0⟩, 0, 1, [0]⟩
theorem seC22 : seC ⟨z32, 0⟩ [] tx22 = (⟨z32, 1⟩, bx22, 0) := rfl
theorem bx22_len : bx22.length = 20 := by
  show (seL z32 (ncL 0) [] tx22).length = 20
  rw [seL_len]
  rfl
theorem ssS22 : ssS rl22 se22a tx22 3 = (se22b, 0, bx22, 0) := by
  show (if exB rl22 se22a 3 = true then _ else _ : Ses × Nat × List UInt8 × Int) = _
  rw [if_neg (by decide)]
  show (if (seC ⟨z32, 0⟩ [] tx22).2.2 ≠ 0 then _ else _ : Ses × Nat × List UInt8 × Int) = _
  rw [if_neg (by rw [seC22]; simp)]
  rfl
theorem opC22 : (opC ⟨z32, 0⟩ [] bx22).2 = (tx22, 0) := opC_seC ⟨z32, 0⟩ tx22 rfl
theorem ssO22 : ssO rl22 se22b 0 bx22 4 = (se22c, tx22, 0) := by
  have h1 : ¬ rl22.expire ≤ snN se22b.born 4 := by decide
  have h2 : ¬ cmE se22b.came 0 ≠ 0 := by decide
  have h3 : (opC ⟨se22b.rcv.key, 0⟩ [] bx22).2 = (tx22, 0) := opC22
  unfold ssO
  rw [if_neg h1, if_neg h2, h3, if_neg (by simp)]
  rfl
theorem ssO22b : ssO rl22 se22c 0 bx22 5 = (se22c, [], 43) := by
  have h1 : ¬ rl22.expire ≤ snN se22c.born 5 := by decide
  have h2 : cmE se22c.came 0 ≠ 0 := by decide
  unfold ssO
  rw [if_neg h1, if_pos h2]
  rfl
theorem build_cp0 (a : Option Addr) (l c : Nat) (w : World) : (Instr.build 46 #[(0, .slice a l c)]).run Tryd.prog w = .ok (.agg #[.slice a l c, .int .u64 0]) w := by kernel_rfl
theorem build_rl22 (w : World) : (Instr.build 24 #[(0, .int .u64 5), (1, .int .u64 30), (2, .int .i64 2), (3, .int .u64 50), (4, .int .u64 100), (5, .int .u64 5), (6, .int .u64 9)]).run Tryd.prog w = .ok (.agg (rlC rl22).toArray) w := by kernel_rfl
theorem alloc_rl (w : World) : (Instr.alloc 24 true (.tuple #[])).run Tryd.prog w = .ok (.pointer (some ⟨w.heap.size, 0, none⟩)) (w.alloc (.cells (rlC ⟨0, 0, 0, 0, 0, 0, 0⟩).toArray 24)) := by kernel_rfl
theorem one_rl (r : Rl) : (rlC r).toArray.all (·.oneCell') = true := by kernel_rfl

theorem wpList_loadG22 {P : Program} {ops : Array Oper} {rest : List Oper} {op : Oper} {a : Act} {w : World} {Q : Exit → Act → World → Prop} (ty : TypeId) (x : Operand) (ho : op.op = .load ty x) {g : Nat} (hx : a.eval x = .pointer (some ⟨g, 0, none⟩))
    {bt : TypeId} (cs : List Value) (hb : BlkAt g bt cs w) {d : TypeDesc} (hu : P.underlying ty = some d) (hd : d.isRow = true) (hi : (P.info? ty).map (·.size) = some cs.length) (hw : Region.wanted op (yielded ops a.tmps) = true)
    (h : wpList P ops Q rest (a.put op.dst (.agg cs.toArray)) w) : wpList P ops Q (op :: rest) a w := by
  refine wpList_step fun K hK => ?_
  rw [if_pos hw]
  unfold Oper.wp
  rw [exec_load_part ty x ho hx [] cs [] hb (Below.refl _ _) (by simp) rfl hu hd hi]
  exact hK _ _ h
theorem wpList_loadRl {g : Nat} {r : Rl} {ops : Array Oper} {rest : List Oper} {op : Oper} {a : Act} {W : World} {Q : Exit → Act → World → Prop} (x : Operand) (ho : op.op = .load 24 x) (hx : a.eval x = .pointer (some ⟨g, 0, none⟩)) (hb : BlkAt g 24 (rlC r) W) (hw : Region.wanted op (yielded ops a.tmps) = true) (h : wpList Tryd.prog ops Q rest (a.put op.dst (.agg (rlC r).toArray)) W) : wpList Tryd.prog ops Q (op :: rest) a W :=
  wpList_loadG22 24 x ho hx (rlC r) hb Tryd.underlying24 rfl info_rl hw h
theorem wt22 : wtN rl22 0 = 5 ∧ wtN rl22 2 = 20 ∧ wtN rl22 3 = 30 := by decide
theorem du22 : duB rl22 0 0 4 = false ∧ duB rl22 0 0 5 = true ∧ (agT rl22 0 0 5).2 = true := by decide
theorem rk22 : rkB rl22 se22c 50 = true ∧ exB rl22 se22c 99 = false := by decide

set_option maxRecDepth 100000 in
set_option maxHeartbeats 8000000 in
theorem awake_any (w : World) (hp : PlT w) (hk : KpT w) : Calls Tryd.prog 7 #[] w fun e w' => e = .returned (.bool true) ∧ Below w.heap.size w w' := by
  have HP : Hid (PlT w ∧ KpT w) := ⟨hp, hk⟩
  have kc := fun (w : World) (C : Array Value) (n c : Nat) => Lib.run_convert_bytes_const (P := Tryd.prog) w 40 5 C n c Tryd.underlying40 Tryd.underlying5
  clear hp hk
  go_enter Tryd.func7, Tryd.ntmps7
  go_wp2_with (first | refine wpList_buildB rfl 24 _ rfl #[(0, .int .u64 5), (1, .int .u64 30), (2, .int .i64 2), (3, .int .u64 50), (4, .int .u64 100), (5, .int .u64 5), (6, .int .u64 9)] (by go_simp; done) _ (build_rl22 _) ?_ | refine wpList_alloc_blk rfl 24 rfl (rlC ⟨0, 0, 0, 0, 0, 0, 0⟩) (alloc_rl _) ?_)
  intro w1 r1 b1 s1
  obtain ⟨g, hg⟩ : ∃ n : Nat, n = w.heap.size := ⟨_, rfl⟩
  rw [← hg] at r1 ⊢
  have HR1 : Hid (BlkAt g 24 (rlC ⟨0, 0, 0, 0, 0, 0, 0⟩) w1 ∧ Below w.heap.size w w1 ∧ w.heap.size ≤ g) := ⟨r1, b1, by omega⟩
  clear r1 b1 s1 hg
  go_wp2_with (refine wpList_store_part rfl 24 _ _ rfl rfl (rlC rl22) rfl [] (rlC ⟨0, 0, 0, 0, 0, 0, 0⟩) [] (rlC rl22) HR1.out.1 rfl rfl rfl rfl info_rl (one_rl _) ?_)
  intro w2 r2 hw2
  have HR2 : Hid (BlkAt g 24 (rlC rl22) w2 ∧ Below w.heap.size w w2) := ⟨r2, hw2.below _ _ HR1.out.2.2 HR1.out.2.1⟩
  clear r2 hw2 HR1
  go_wp2_with (refine wpList_make_new16 rfl _ _ 40 rfl Tryd.underlying40 infoU8 32 rfl rfl (by decide) ?_)
  intro w3 hN3
  have HR3 : Hid (BlkAt g 24 (rlC rl22) w3 ∧ Below w.heap.size w w3 ∧ Rd w3 (.slice (some ⟨w2.heap.size, 0, none⟩) 32 32) z32) := ⟨HR2.out.1.kept hN3.2, stepB HR2.out.2 hN3.2, hN3.rd⟩
  generalize w2.heap.size = k at HR3 ⊢
  clear hN3 HR2
  go_wp2_with (first | refine wpList_buildB rfl 46 _ rfl #[(0, .slice (some ⟨k, 0, none⟩) 32 32)] (by go_simp; done) _ (build_cp0 _ _ _ _) ?_ | refine wpList_load_part rfl 24 _ rfl rfl [] (rlC rl22) [] HR3.out.1 rfl rfl Tryd.underlying24 rfl info_rl ?_)
  refine (cnew_any rl22 (.slice (some ⟨k, 0, none⟩) 32 32) (.slice (some ⟨k, 0, none⟩) 32 32) z32 z32 0 0 0 (by decide) (by decide) (by decide) (by decide) (by decide) _ _ _ rfl rfl rfl _ HR3.out.2.2 HR3.out.2.2).mono ?_
  rintro e w4 ⟨gs, rfl, hgs, hS4, b4⟩
  have HS4 : Hid (BlkAt g 24 (rlC rl22) w4 ∧ Below w.heap.size w w4 ∧ SnP gs rl22 se22a w4 ∧ w.heap.size ≤ gs ∧ g < gs) := ⟨HR3.out.1.kept b4, stepB HR3.out.2.1 b4, hS4, Nat.le_trans HR3.out.2.1.size hgs, by have := HR3.out.1.lt; omega⟩
  clear hgs hS4 b4 HR3
  go_wp2_with (refine wpList_load_part rfl 24 _ rfl rfl [] (rlC rl22) [] HS4.out.1 rfl rfl Tryd.underlying24 rfl info_rl ?_)
  refine (cstart_any rl22 0 _ rfl _).mono ?_
  rintro e w5 ⟨gt, rfl, hgt, hT5, b5⟩
  have HS5 : Hid (BlkAt g 24 (rlC rl22) w5 ∧ Below w.heap.size w w5 ∧ SnP gs rl22 se22a w5 ∧ w.heap.size ≤ gs ∧ g < gs ∧ BlkAt gt 73 (tiC rl22 0 0) w5 ∧ gs < gt) := ⟨HS4.out.1.kept b5, stepB HS4.out.2.1 b5, HS4.out.2.2.1.kept b5, HS4.out.2.2.2.1, HS4.out.2.2.2.2, hT5, by have := HS4.out.2.2.1.lt; omega⟩
  have HGt : Hid (w.heap.size ≤ gt) := (by have := HS5.out.2.2.2.1; have := HS5.out.2.2.2.2.2.2; omega : w.heap.size ≤ gt)
  clear hgt hT5 b5 HS4
  have b6 : Below w5.heap.size w5 (w5.alloc (.cells #[.int .u8 116, .int .u8 101, .int .u8 120, .int .u8 116] 5 (4, 5))) := growB _
  have hT6 : Rd (w5.alloc (.cells #[.int .u8 116, .int .u8 101, .int .u8 120, .int .u8 116] 5 (4, 5))) (.slice (some ⟨w5.heap.size, 0, none⟩) 4 4) tx22 := Rd.marked22 tx22 rfl rfl rfl (by decide)
  generalize hw6 : w5.alloc (.cells #[.int .u8 116, .int .u8 101, .int .u8 120, .int .u8 116] 5 (4, 5)) = w6 at b6 hT6
  have HW6 : Hid (w5.alloc (.cells #[.int .u8 116, .int .u8 101, .int .u8 120, .int .u8 116] 5 (4, 5)) = w6) := hw6
  have HS6 : Hid (Rd w6 (.slice (some ⟨w5.heap.size, 0, none⟩) 4 4) tx22 ∧ Below w5.heap.size w5 w6) := ⟨hT6, b6⟩
  clear hw6 b6 hT6
  go_wp2_with fail
  rw [HW6.out]
  refine (zseal_any gs rl22 rl22_ok se22a _ tx22 (by decide) 3 (by decide) w6 (HS5.out.2.2.1.kept HS6.out.2) HS6.out.1 ((HP.out.1.kept HS5.out.2.1).kept HS6.out.2) ((HP.out.2.kept HS5.out.2.1).kept HS6.out.2)).mono ?_
  rw [ssS22]
  rintro e w7 ⟨x, rfl, hO, hS7, hC7⟩
  have hb56 := stepB HS5.out.2.1 HS6.out.2
  have HS7 : Hid (BlkAt g 24 (rlC rl22) w7 ∧ Below w.heap.size w w7 ∧ SnP gs rl22 se22b w7 ∧ w.heap.size ≤ gs ∧ BlkAt gt 73 (tiC rl22 0 0) w7 ∧ gs < gt ∧ g < gs ∧ Rd w7 x bx22) := ⟨(HS5.out.1.kept HS6.out.2).chg hC7 (by have := HS5.out.2.2.2.2.1; omega), Chg.gone hb56 hC7 hb56.size HS5.out.2.2.2.1, hS7, HS5.out.2.2.2.1, (HS5.out.2.2.2.2.2.1.kept HS6.out.2).chg hC7 (by have := HS5.out.2.2.2.2.2.2; omega), HS5.out.2.2.2.2.2.2, HS5.out.2.2.2.2.1, hO.rd⟩
  clear hO hS7 hC7 hb56 HS6 HS5 HW6
  obtain ⟨ax, cx, rfl, -⟩ := id HS7.out.2.2.2.2.2.2.2
  go_wp2_with fail
  refine (zopen_any gs rl22 se22b 0 (by decide) _ bx22 (by rw [bx22_len]; decide) 4 (by decide) w7 HS7.out.2.2.1 HS7.out.2.2.2.2.2.2.2 (HP.out.1.kept HS7.out.2.1) (HP.out.2.kept HS7.out.2.1)).mono ?_
  rw [ssO22]
  rintro e w8 ⟨y, rfl, hO, hS8, hC8⟩
  obtain ⟨a1, c1, a2, c2, wa, wb, -, -, hblk, -, -⟩ := HS7.out.2.2.1.mem
  have hbx := HS7.out.2.2.2.2.2.2.2.past16 hblk (snC_no8 _ _ _ _ _ _ _ _ _ _ _ _ _) hC8
  have HS8 : Hid (BlkAt g 24 (rlC rl22) w8 ∧ Below w.heap.size w w8 ∧ SnP gs rl22 se22c w8 ∧ w.heap.size ≤ gs ∧ BlkAt gt 73 (tiC rl22 0 0) w8 ∧ gs < gt ∧ g < gs ∧ Rd w8 (.slice ax bx22.length cx) bx22 ∧ Rd w8 y tx22) := ⟨HS7.out.1.chg hC8 (by have := HS7.out.2.2.2.2.2.2.1; omega), Chg.gone HS7.out.2.1 hC8 HS7.out.2.1.size HS7.out.2.2.2.1, hS8, HS7.out.2.2.2.1, HS7.out.2.2.2.2.1.chg hC8 (by have := HS7.out.2.2.2.2.2.1; omega), HS7.out.2.2.2.2.2.1, HS7.out.2.2.2.2.2.2.1, hbx, hO.rd⟩
  clear hO hS8 hC8 hbx hblk HS7
  obtain ⟨ay, cy, rfl, -⟩ := id HS8.out.2.2.2.2.2.2.2.2
  go_wp2_with fail
  refine (zopen_any gs rl22 se22c 0 (by decide) _ bx22 (by rw [bx22_len]; decide) 5 (by decide) w8 HS8.out.2.2.1 HS8.out.2.2.2.2.2.2.2.1 (HP.out.1.kept HS8.out.2.1) (HP.out.2.kept HS8.out.2.1)).mono ?_
  rw [ssO22b]
  rintro e w9 ⟨z, rfl, hO, hS9, hC9⟩
  obtain ⟨a1, c1, a2, c2, wa, wb, -, -, hblk, -, -⟩ := HS8.out.2.2.1.mem
  have hty := HS8.out.2.2.2.2.2.2.2.2.past16 hblk (snC_no8 _ _ _ _ _ _ _ _ _ _ _ _ _) hC9
  have HS9 : Hid (BlkAt g 24 (rlC rl22) w9 ∧ Below w.heap.size w w9 ∧ SnP gs rl22 se22c w9 ∧ BlkAt gt 73 (tiC rl22 0 0) w9 ∧ Rd w9 (.slice ay tx22.length cy) tx22) := ⟨HS8.out.1.chg hC9 (by have := HS8.out.2.2.2.2.2.2.1; omega), Chg.gone HS8.out.2.1 hC9 HS8.out.2.1.size HS8.out.2.2.2.1, hS9, HS8.out.2.2.2.2.1.chg hC9 (by have := HS8.out.2.2.2.2.2.1; omega), hty⟩
  clear hO hS9 hC9 hty hblk HS8
  go_wp2_with (refine wpList_loadRl _ rfl rfl HS9.out.1 (by go_simp; done) ?_)
  refine (cwait_any rl22 rl22_ok 0 (by decide) _ rfl _).mono ?_
  rw [wt22.1]
  rintro e w10 ⟨rfl, b10⟩
  have HS10 : Hid (BlkAt g 24 (rlC rl22) w10 ∧ Below w.heap.size w w10 ∧ SnP gs rl22 se22c w10 ∧ BlkAt gt 73 (tiC rl22 0 0) w10 ∧ Rd w10 (.slice ay tx22.length cy) tx22) := ⟨HS9.out.1.kept b10, stepB HS9.out.2.1 b10, HS9.out.2.2.1.kept b10, HS9.out.2.2.2.1.kept b10, HS9.out.2.2.2.2.kept b10⟩
  clear b10 HS9
  go_wp2_with (refine wpList_loadRl _ rfl rfl HS10.out.1 (by go_simp; done) ?_)
  refine (cwait_any rl22 rl22_ok 2 (by decide) _ rfl _).mono ?_
  rw [wt22.2.1]
  rintro e w11 ⟨rfl, b11⟩
  have HS11 : Hid (BlkAt g 24 (rlC rl22) w11 ∧ Below w.heap.size w w11 ∧ SnP gs rl22 se22c w11 ∧ BlkAt gt 73 (tiC rl22 0 0) w11 ∧ Rd w11 (.slice ay tx22.length cy) tx22) := ⟨HS10.out.1.kept b11, stepB HS10.out.2.1 b11, HS10.out.2.2.1.kept b11, HS10.out.2.2.2.1.kept b11, HS10.out.2.2.2.2.kept b11⟩
  clear b11 HS10
  go_wp2_with (refine wpList_loadRl _ rfl rfl HS11.out.1 (by go_simp; done) ?_)
  refine (cwait_any rl22 rl22_ok 3 (by decide) _ rfl _).mono ?_
  rw [wt22.2.2]
  rintro e w12 ⟨rfl, b12⟩
  have HS12 : Hid (Below w.heap.size w w12 ∧ SnP gs rl22 se22c w12 ∧ BlkAt gt 73 (tiC rl22 0 0) w12 ∧ Rd w12 (.slice ay tx22.length cy) tx22) := ⟨stepB HS11.out.2.1 b12, HS11.out.2.2.1.kept b12, HS11.out.2.2.2.1.kept b12, HS11.out.2.2.2.2.kept b12⟩
  have hcv := convS22 HS12.out.2.2.2
  clear b12 HS11
  go_wp2_with fail
  refine (csent_any gs rl22 se22c w12 HS12.out.2.1).mono ?_
  rintro e w13 ⟨rfl, rfl⟩
  clear hcv
  go_wp2_with fail
  refine (crekey_any gs rl22 se22c 50 (by decide) _ HS12.out.2.1).mono ?_
  rw [rk22.1]
  rintro e w14 ⟨rfl, b14⟩
  have HS14 : Hid (Below w.heap.size w w14 ∧ SnP gs rl22 se22c w14 ∧ BlkAt gt 73 (tiC rl22 0 0) w14) := ⟨stepB HS12.out.1 b14, HS12.out.2.1.kept b14, HS12.out.2.2.1.kept b14⟩
  clear b14 HS12
  go_wp2_with fail
  refine (cexpired_any gs rl22 se22c 99 (by decide) _ HS14.out.2.1).mono ?_
  rw [rk22.2]
  rintro e w15 ⟨rfl, b15⟩
  have HS15 : Hid (Below w.heap.size w w15 ∧ BlkAt gt 73 (tiC rl22 0 0) w15) := ⟨stepB HS14.out.1 b15, HS14.out.2.2.kept b15⟩
  clear b15 HS14
  go_wp2_with fail
  refine (cdue_any gt rl22 rl22_ok 0 0 4 (by decide) (by decide) (by decide) _ HS15.out.2).mono ?_
  rw [du22.1]
  rintro e w16 ⟨rfl, b16⟩
  have HS16 : Hid (Below w.heap.size w w16 ∧ BlkAt gt 73 (tiC rl22 0 0) w16) := ⟨stepB HS15.out.1 b16, HS15.out.2.kept b16⟩
  clear b16 HS15
  go_wp2_with fail
  refine (cdue_any gt rl22 rl22_ok 0 0 5 (by decide) (by decide) (by decide) _ HS16.out.2).mono ?_
  rw [du22.2.1]
  rintro e w17 ⟨rfl, b17⟩
  have HS17 : Hid (Below w.heap.size w w17 ∧ BlkAt gt 73 (tiC rl22 0 0) w17) := ⟨stepB HS16.out.1 b17, HS16.out.2.kept b17⟩
  clear b17 HS16
  go_wp2_with fail
  refine (cagain_any gt rl22 0 0 5 (by decide) rl22_ok _ HS17.out.2).mono ?_
  rw [du22.2.2]
  rintro e w18 ⟨rfl, -, c18⟩
  have HB18 : Hid (Below w.heap.size w w18) := Chg.gone HS17.out.1 c18 HS17.out.1.size HGt.out
  clear c18 HS17
  go_wp2
  go_ret
  exact ⟨rfl, HB18.out⟩
end Go.Proofs.YtliiofjcghdjoaaDoor

/- How long it takes till a message is said again, and timers: contracts of the reference of layer 22, first part. -/
namespace Go.Proofs.YtliiofjcghdjoaaDoor
open Go.ChangeShapes Go.WideShapes Go.ChangeAt Go.RowKit
set_option linter.unusedSimpArgs false
set_option linter.unusedVariables false

theorem since22_any (t n : Nat) (ht : t < 18446744073709551616) (hn : n < 18446744073709551616) (w : World) :
    Calls Tryd.prog 26 #[.int .u64 (t : Int), .int .u64 (n : Int)] w fun e w' => e = .returned (.int .u64 ((snN t n : Nat) : Int)) ∧ w' = w := by
  by_cases h : n < t
  · have d : decide ((n : Int) < (t : Int)) = true := decide_eq_true (by omega)
    have dN : decide (n < t) = true := decide_eq_true h
    have HE : Hid ((snN t n : Nat) = 0) := (by unfold snN; rw [if_pos h] : snN t n = 0)
    go_enter Tryd.func26, Tryd.ntmps26
    go_wp2
    go_ret
    exact ⟨retI (by rw [HE.out]; rfl), rfl⟩
  · have d : decide ((n : Int) < (t : Int)) = false := decide_eq_false (by omega)
    have dN : decide (n < t) = false := decide_eq_false h
    obtain ⟨D, hD⟩ : ∃ D : Nat, D = n - t := ⟨_, rfl⟩
    have HE : Hid ((snN t n : Nat) = D) := (by unfold snN; rw [if_neg h, hD] : snN t n = D)
    have e2 : IntKind.u64.wrap ((n : Int) - (t : Int)) = (D : Int) := by rw [IntKind.wrap_u64]; omega
    clear hD
    go_enter Tryd.func26, Tryd.ntmps26
    go_wp2
    go_ret
    exact ⟨retI (by rw [HE.out]), rfl⟩

set_option maxRecDepth 100000 in
set_option maxHeartbeats 4000000 in
theorem wait22_any (r : Rl) (hr : RlW r) (n : Int) (A : Array Value) (hA : A = (rlC r).toArray) (w : World) :
    Calls Tryd.prog 10 #[.agg A, .int .i64 n] w fun e w' => e = .returned (.int .u64 ((wtN r n : Nat) : Int)) ∧ Below w.heap.size w w' := by
  have HA : Hid (A = (rlC r).toArray) := hA
  have HR : Hid (RlW r) := hr
  have HE : Hid (∀ (i : Nat), n ≤ (i : Int) → ((i : Int) ≤ n ∨ i = 0) → w0N r * 2 ^ i ≤ moN r → wtN r n = w0N r * 2 ^ i) := fun i h1 h2 h3 => wt_end r h1 h2 h3
  have HM : Hid (∀ (i : Nat), (i : Int) < n → moN r < 2 * (w0N r * 2 ^ i) → wtN r n = moN r) := fun i h1 h2 => wt_most r h1 h2
  have HF : Hid (∀ (i : Nat), w0N r * 2 ^ i ≤ moN r → i < 64) := fun i h => wt_few r hr h
  have HNx : Hid (∀ (i : Nat), w0N r * 2 ^ (i + 1) = 2 * (w0N r * 2 ^ i)) := fun i => wt_next r i
  have HGe : Hid (w0N r * 2 ^ 0 ≤ moN r) := (by have := moN_ge r; simpa using this : w0N r * 2 ^ 0 ≤ moN r)
  have HLt : Hid (moN r < 18446744073709551616) := moN_lt hr
  have h0w : w0N r = if r.retry = 0 then 1 else r.retry := rfl
  have h0m : moN r = if r.rmax < w0N r then w0N r else r.rmax := rfl
  obtain ⟨R0, hR0⟩ : ∃ x, x = r.retry := ⟨_, rfl⟩
  obtain ⟨R1, hR1⟩ : ∃ x, x = r.rmax := ⟨_, rfl⟩
  obtain ⟨Z, hZ⟩ : ∃ x, x = wtN r n := ⟨_, rfl⟩
  rw [← hZ] at HE HM ⊢
  have hcell : rlC r = [.int .u64 (R0 : Int), .int .u64 (R1 : Int), .int .i64 r.tries, .int .u64 (r.rekey : Int), .int .u64 (r.expire : Int), .int .u64 (r.rcount : Int), .int .u64 (r.ecount : Int)] := by rw [hR0, hR1]; rfl
  rw [← hR0] at h0w
  rw [← hR1] at h0m
  generalize w0N r = W0 at HE HM HF HNx HGe h0w h0m
  generalize moN r = MO at HE HM HF HGe HLt h0m
  have HCl : Hid (rlC r = [.int .u64 (R0 : Int), .int .u64 (R1 : Int), .int .i64 r.tries, .int .u64 (r.rekey : Int), .int .u64 (r.expire : Int), .int .u64 (r.rcount : Int), .int .u64 (r.ecount : Int)]) := hcell
  clear hA hr hR0 hR1 hZ hcell
  go_enter Tryd.func10, Tryd.ntmps10
  go_wp2_with (refine wpList_box_blk rfl 27 _ rfl (rlC r) (by rw [← HA.out]; rfl) ?_)
  intro w1 r1 b1 s1
  obtain ⟨g, hg⟩ : ∃ n : Nat, n = w.heap.size := ⟨_, rfl⟩
  rw [← hg] at r1 ⊢
  rw [HCl.out] at r1
  have c0 : w1.cell? ⟨g, 0, none⟩ = some (.int .u64 (R0 : Int)) := r1.cell 0
  have c1 : w1.cell? ⟨g, 1, none⟩ = some (.int .u64 (R1 : Int)) := r1.cell 1
  have HB : Hid (Below w.heap.size w w1) := b1
  clear r1 b1 s1 hg HA
  by_cases h0 : R0 = 0
  · rw [if_pos h0] at h0w
    have HW0 : Hid (W0 = 1) := h0w
    have d0 : ((R0 : Int) == 0) = true := by simp [h0]
    rw [h0w] at h0m
    by_cases h1 : R1 < 1
    · rw [if_pos h1] at h0m
      have HMO : Hid (((1 : Nat)) = MO) := h0m.symm
      have d1 : decide ((R1 : Int) < 1) = true := decide_eq_true (by omega)
      clear h0 h0w h0m h1
      go_wp2
      go_loop [5, 7] (fun xv iv => ∃ i x : Nat, iv = .int .i64 (i : Int) ∧ xv = .int .u64 (x : Int) ∧ Hid (x = W0 * 2 ^ i ∧ x ≤ MO ∧ ((i : Int) ≤ n ∨ i = 0))) (fun _ iv => 64 - (intOf iv).toNat)
      case atStart => exact ⟨0, 1, rfl, rfl, by have h := HGe.out; simp only [Nat.pow_zero, Nat.mul_one] at h ⊢; exact ⟨HW0.out.symm, by rw [← HW0.out]; exact h, .inr (by trivial)⟩⟩
      case round =>
        obtain ⟨i, x, rfl, rfl, HX⟩ := hrel
        have hi64 : i < 64 := HF.out i (by rw [← HX.out.1]; exact HX.out.2.1)
        have d64 : decide ((i : Int) < 64) = true := decide_eq_true (by omega)
        by_cases hlt : (i : Int) < n
        · have d : decide ((i : Int) < n) = true := decide_eq_true hlt
          have hx64 : x < 18446744073709551616 := by have := HX.out.2.1; have := HLt.out; omega
          by_cases h63 : 9223372036854775808 ≤ x
          · have d2 : decide ((9223372036854775808 : Int) ≤ (x : Int)) = true := decide_eq_true (by omega)
            have HZ : Hid (Z = MO) := HM.out i hlt (by rw [← HX.out.1]; have := HLt.out; omega)
            have HMo : Hid ((1 : Int) = (MO : Int)) := (by rw [← HMO.out]; try rfl : (1 : Int) = (MO : Int))
            clear h63 hx64 hi64
            go_wp2
            go_ret
            exact ⟨retI (by rw [HZ.out]; exact HMo.out), HB.out⟩
          · have d2 : decide ((9223372036854775808 : Int) ≤ (x : Int)) = false := decide_eq_false (by omega)
            obtain ⟨Y, hY⟩ : ∃ Y : Nat, Y = 2 * x := ⟨_, rfl⟩
            have hwr : IntKind.u64.wrap (2 * (x : Int)) = (Y : Int) := by rw [IntKind.wrap_u64]; omega
            have HY : Hid (Y = 2 * x) := hY
            by_cases hgt : MO < Y
            · have d3 : decide ((1 : Int) < (Y : Int)) = true := decide_eq_true (by have := HMO.out; omega)
              have HZ : Hid (Z = MO) := HM.out i hlt (by rw [← HX.out.1]; omega)
              have HMo : Hid ((1 : Int) = (MO : Int)) := (by rw [← HMO.out]; try rfl : (1 : Int) = (MO : Int))
              clear h63 hx64 hi64 hY
              go_wp2
              go_ret
              exact ⟨retI (by rw [HZ.out]; exact HMo.out), HB.out⟩
            · have d3 : decide ((1 : Int) < (Y : Int)) = false := decide_eq_false (by have := HMO.out; omega)
              have HX2 : Hid (Y = W0 * 2 ^ (i + 1) ∧ Y ≤ MO ∧ (((i + 1 : Nat) : Int) ≤ n ∨ i + 1 = 0)) := ⟨by rw [HNx.out, ← HX.out.1]; exact hY, by omega, .inl (by omega)⟩
              clear h63 hx64 hY
              go_wp2
              go_round
              case rel => exact ⟨i + 1, Y, by go_num, rfl, HX2⟩
              case measure => simp [intOf]; omega
        · have d : decide ((i : Int) < n) = false := decide_eq_false hlt
          have HZ : Hid (Z = x) := (by rw [HX.out.1]; exact HE.out i (by omega) HX.out.2.2 (by rw [← HX.out.1]; exact HX.out.2.1) : Z = x)
          clear hi64
          go_wp2
          go_ret
          exact ⟨retI (by rw [HZ.out]), HB.out⟩
    · rw [if_neg h1] at h0m
      have HMO : Hid (R1 = MO) := h0m.symm
      have d1 : decide ((R1 : Int) < 1) = false := decide_eq_false (by omega)
      clear h0 h0w h0m h1
      go_wp2
      go_loop [5, 7] (fun xv iv => ∃ i x : Nat, iv = .int .i64 (i : Int) ∧ xv = .int .u64 (x : Int) ∧ Hid (x = W0 * 2 ^ i ∧ x ≤ MO ∧ ((i : Int) ≤ n ∨ i = 0))) (fun _ iv => 64 - (intOf iv).toNat)
      case atStart => exact ⟨0, 1, rfl, rfl, by have h := HGe.out; simp only [Nat.pow_zero, Nat.mul_one] at h ⊢; exact ⟨HW0.out.symm, by rw [← HW0.out]; exact h, .inr (by trivial)⟩⟩
      case round =>
        obtain ⟨i, x, rfl, rfl, HX⟩ := hrel
        have hi64 : i < 64 := HF.out i (by rw [← HX.out.1]; exact HX.out.2.1)
        have d64 : decide ((i : Int) < 64) = true := decide_eq_true (by omega)
        by_cases hlt : (i : Int) < n
        · have d : decide ((i : Int) < n) = true := decide_eq_true hlt
          have hx64 : x < 18446744073709551616 := by have := HX.out.2.1; have := HLt.out; omega
          by_cases h63 : 9223372036854775808 ≤ x
          · have d2 : decide ((9223372036854775808 : Int) ≤ (x : Int)) = true := decide_eq_true (by omega)
            have HZ : Hid (Z = MO) := HM.out i hlt (by rw [← HX.out.1]; have := HLt.out; omega)
            have HMo : Hid (((R1 : Int) : Int) = (MO : Int)) := (by rw [← HMO.out]; try rfl : ((R1 : Int) : Int) = (MO : Int))
            clear h63 hx64 hi64
            go_wp2
            go_ret
            exact ⟨retI (by rw [HZ.out]; exact HMo.out), HB.out⟩
          · have d2 : decide ((9223372036854775808 : Int) ≤ (x : Int)) = false := decide_eq_false (by omega)
            obtain ⟨Y, hY⟩ : ∃ Y : Nat, Y = 2 * x := ⟨_, rfl⟩
            have hwr : IntKind.u64.wrap (2 * (x : Int)) = (Y : Int) := by rw [IntKind.wrap_u64]; omega
            have HY : Hid (Y = 2 * x) := hY
            by_cases hgt : MO < Y
            · have d3 : decide (((R1 : Int) : Int) < (Y : Int)) = true := decide_eq_true (by have := HMO.out; omega)
              have d3N : decide (R1 < Y) = true := decide_eq_true (by have := HMO.out; omega)
              have HZ : Hid (Z = MO) := HM.out i hlt (by rw [← HX.out.1]; omega)
              have HMo : Hid (((R1 : Int) : Int) = (MO : Int)) := (by rw [← HMO.out]; try rfl : ((R1 : Int) : Int) = (MO : Int))
              clear h63 hx64 hi64 hY
              go_wp2
              go_ret
              exact ⟨retI (by rw [HZ.out]; exact HMo.out), HB.out⟩
            · have d3 : decide (((R1 : Int) : Int) < (Y : Int)) = false := decide_eq_false (by have := HMO.out; omega)
              have d3N : decide (R1 < Y) = false := decide_eq_false (by have := HMO.out; omega)
              have HX2 : Hid (Y = W0 * 2 ^ (i + 1) ∧ Y ≤ MO ∧ (((i + 1 : Nat) : Int) ≤ n ∨ i + 1 = 0)) := ⟨by rw [HNx.out, ← HX.out.1]; exact hY, by omega, .inl (by omega)⟩
              clear h63 hx64 hY
              go_wp2
              go_round
              case rel => exact ⟨i + 1, Y, by go_num, rfl, HX2⟩
              case measure => simp [intOf]; omega
        · have d : decide ((i : Int) < n) = false := decide_eq_false hlt
          have HZ : Hid (Z = x) := (by rw [HX.out.1]; exact HE.out i (by omega) HX.out.2.2 (by rw [← HX.out.1]; exact HX.out.2.1) : Z = x)
          clear hi64
          go_wp2
          go_ret
          exact ⟨retI (by rw [HZ.out]), HB.out⟩
  · rw [if_neg h0] at h0w
    have HW0 : Hid (W0 = R0) := h0w
    have d0 : ((R0 : Int) == 0) = false := by rw [beq_eq_false_iff_ne]; omega
    rw [h0w] at h0m
    by_cases h1 : R1 < R0
    · rw [if_pos h1] at h0m
      have HMO : Hid (R0 = MO) := h0m.symm
      have d1 : decide ((R1 : Int) < (R0 : Int)) = true := decide_eq_true (by omega)
      have d1N : decide (R1 < R0) = true := decide_eq_true h1
      clear h0 h0w h0m h1
      go_wp2
      go_loop [5, 7] (fun xv iv => ∃ i x : Nat, iv = .int .i64 (i : Int) ∧ xv = .int .u64 (x : Int) ∧ Hid (x = W0 * 2 ^ i ∧ x ≤ MO ∧ ((i : Int) ≤ n ∨ i = 0))) (fun _ iv => 64 - (intOf iv).toNat)
      case atStart => exact ⟨0, R0, rfl, rfl, by have h := HGe.out; simp only [Nat.pow_zero, Nat.mul_one] at h ⊢; exact ⟨HW0.out.symm, by rw [← HW0.out]; exact h, .inr (by trivial)⟩⟩
      case round =>
        obtain ⟨i, x, rfl, rfl, HX⟩ := hrel
        have hi64 : i < 64 := HF.out i (by rw [← HX.out.1]; exact HX.out.2.1)
        have d64 : decide ((i : Int) < 64) = true := decide_eq_true (by omega)
        by_cases hlt : (i : Int) < n
        · have d : decide ((i : Int) < n) = true := decide_eq_true hlt
          have hx64 : x < 18446744073709551616 := by have := HX.out.2.1; have := HLt.out; omega
          by_cases h63 : 9223372036854775808 ≤ x
          · have d2 : decide ((9223372036854775808 : Int) ≤ (x : Int)) = true := decide_eq_true (by omega)
            have HZ : Hid (Z = MO) := HM.out i hlt (by rw [← HX.out.1]; have := HLt.out; omega)
            have HMo : Hid (((R0 : Int) : Int) = (MO : Int)) := (by rw [← HMO.out]; try rfl : ((R0 : Int) : Int) = (MO : Int))
            clear h63 hx64 hi64
            go_wp2
            go_ret
            exact ⟨retI (by rw [HZ.out]; exact HMo.out), HB.out⟩
          · have d2 : decide ((9223372036854775808 : Int) ≤ (x : Int)) = false := decide_eq_false (by omega)
            obtain ⟨Y, hY⟩ : ∃ Y : Nat, Y = 2 * x := ⟨_, rfl⟩
            have hwr : IntKind.u64.wrap (2 * (x : Int)) = (Y : Int) := by rw [IntKind.wrap_u64]; omega
            have HY : Hid (Y = 2 * x) := hY
            by_cases hgt : MO < Y
            · have d3 : decide (((R0 : Int) : Int) < (Y : Int)) = true := decide_eq_true (by have := HMO.out; omega)
              have d3N : decide (R0 < Y) = true := decide_eq_true (by have := HMO.out; omega)
              have HZ : Hid (Z = MO) := HM.out i hlt (by rw [← HX.out.1]; omega)
              have HMo : Hid (((R0 : Int) : Int) = (MO : Int)) := (by rw [← HMO.out]; try rfl : ((R0 : Int) : Int) = (MO : Int))
              clear h63 hx64 hi64 hY
              go_wp2
              go_ret
              exact ⟨retI (by rw [HZ.out]; exact HMo.out), HB.out⟩
            · have d3 : decide (((R0 : Int) : Int) < (Y : Int)) = false := decide_eq_false (by have := HMO.out; omega)
              have d3N : decide (R0 < Y) = false := decide_eq_false (by have := HMO.out; omega)
              have HX2 : Hid (Y = W0 * 2 ^ (i + 1) ∧ Y ≤ MO ∧ (((i + 1 : Nat) : Int) ≤ n ∨ i + 1 = 0)) := ⟨by rw [HNx.out, ← HX.out.1]; exact hY, by omega, .inl (by omega)⟩
              clear h63 hx64 hY
              go_wp2
              go_round
              case rel => exact ⟨i + 1, Y, by go_num, rfl, HX2⟩
              case measure => simp [intOf]; omega
        · have d : decide ((i : Int) < n) = false := decide_eq_false hlt
          have HZ : Hid (Z = x) := (by rw [HX.out.1]; exact HE.out i (by omega) HX.out.2.2 (by rw [← HX.out.1]; exact HX.out.2.1) : Z = x)
          clear hi64
          go_wp2
          go_ret
          exact ⟨retI (by rw [HZ.out]), HB.out⟩
    · rw [if_neg h1] at h0m
      have HMO : Hid (R1 = MO) := h0m.symm
      have d1 : decide ((R1 : Int) < (R0 : Int)) = false := decide_eq_false (by omega)
      have d1N : decide (R1 < R0) = false := decide_eq_false h1
      clear h0 h0w h0m h1
      go_wp2
      go_loop [5, 7] (fun xv iv => ∃ i x : Nat, iv = .int .i64 (i : Int) ∧ xv = .int .u64 (x : Int) ∧ Hid (x = W0 * 2 ^ i ∧ x ≤ MO ∧ ((i : Int) ≤ n ∨ i = 0))) (fun _ iv => 64 - (intOf iv).toNat)
      case atStart => exact ⟨0, R0, rfl, rfl, by have h := HGe.out; simp only [Nat.pow_zero, Nat.mul_one] at h ⊢; exact ⟨HW0.out.symm, by rw [← HW0.out]; exact h, .inr (by trivial)⟩⟩
      case round =>
        obtain ⟨i, x, rfl, rfl, HX⟩ := hrel
        have hi64 : i < 64 := HF.out i (by rw [← HX.out.1]; exact HX.out.2.1)
        have d64 : decide ((i : Int) < 64) = true := decide_eq_true (by omega)
        by_cases hlt : (i : Int) < n
        · have d : decide ((i : Int) < n) = true := decide_eq_true hlt
          have hx64 : x < 18446744073709551616 := by have := HX.out.2.1; have := HLt.out; omega
          by_cases h63 : 9223372036854775808 ≤ x
          · have d2 : decide ((9223372036854775808 : Int) ≤ (x : Int)) = true := decide_eq_true (by omega)
            have HZ : Hid (Z = MO) := HM.out i hlt (by rw [← HX.out.1]; have := HLt.out; omega)
            have HMo : Hid (((R1 : Int) : Int) = (MO : Int)) := (by rw [← HMO.out]; try rfl : ((R1 : Int) : Int) = (MO : Int))
            clear h63 hx64 hi64
            go_wp2
            go_ret
            exact ⟨retI (by rw [HZ.out]; exact HMo.out), HB.out⟩
          · have d2 : decide ((9223372036854775808 : Int) ≤ (x : Int)) = false := decide_eq_false (by omega)
            obtain ⟨Y, hY⟩ : ∃ Y : Nat, Y = 2 * x := ⟨_, rfl⟩
            have hwr : IntKind.u64.wrap (2 * (x : Int)) = (Y : Int) := by rw [IntKind.wrap_u64]; omega
            have HY : Hid (Y = 2 * x) := hY
            by_cases hgt : MO < Y
            · have d3 : decide (((R1 : Int) : Int) < (Y : Int)) = true := decide_eq_true (by have := HMO.out; omega)
              have d3N : decide (R1 < Y) = true := decide_eq_true (by have := HMO.out; omega)
              have HZ : Hid (Z = MO) := HM.out i hlt (by rw [← HX.out.1]; omega)
              have HMo : Hid (((R1 : Int) : Int) = (MO : Int)) := (by rw [← HMO.out]; try rfl : ((R1 : Int) : Int) = (MO : Int))
              clear h63 hx64 hi64 hY
              go_wp2
              go_ret
              exact ⟨retI (by rw [HZ.out]; exact HMo.out), HB.out⟩
            · have d3 : decide (((R1 : Int) : Int) < (Y : Int)) = false := decide_eq_false (by have := HMO.out; omega)
              have d3N : decide (R1 < Y) = false := decide_eq_false (by have := HMO.out; omega)
              have HX2 : Hid (Y = W0 * 2 ^ (i + 1) ∧ Y ≤ MO ∧ (((i + 1 : Nat) : Int) ≤ n ∨ i + 1 = 0)) := ⟨by rw [HNx.out, ← HX.out.1]; exact hY, by omega, .inl (by omega)⟩
              clear h63 hx64 hY
              go_wp2
              go_round
              case rel => exact ⟨i + 1, Y, by go_num, rfl, HX2⟩
              case measure => simp [intOf]; omega
        · have d : decide ((i : Int) < n) = false := decide_eq_false hlt
          have HZ : Hid (Z = x) := (by rw [HX.out.1]; exact HE.out i (by omega) HX.out.2.2 (by rw [← HX.out.1]; exact HX.out.2.1) : Z = x)
          clear hi64
          go_wp2
          go_ret
          exact ⟨retI (by rw [HZ.out]), HB.out⟩
end Go.Proofs.YtliiofjcghdjoaaDoor

/- When it is time to say a message again, and the timer behind it: contracts of the reference of layer 22, second part. -/
namespace Go.Proofs.YtliiofjcghdjoaaDoor
open Go.ChangeShapes Go.WideShapes Go.ChangeAt Go.RowKit
set_option linter.unusedSimpArgs false
set_option linter.unusedVariables false

theorem info_r22 : (Tryd.prog.info? 27).map (·.size) = some 7 := by kernel_rfl
theorem info_t22 : (Tryd.prog.info? 34).map (·.size) = some 2 := by kernel_rfl
theorem retB22 {b c : Bool} (h : c = b) : Ending.returned (.bool b) = Ending.returned (.bool c) := by rw [h]

set_option maxRecDepth 100000 in
set_option maxHeartbeats 4000000 in
theorem due22_any (r : Rl) (hr : RlW r) (last : Nat) (tries : Int) (now : Nat) (hl : last < 18446744073709551616) (hn : now < 18446744073709551616) (A B : Array Value) (hA : A = (rlC r).toArray) (hB : B = (tmC last tries).toArray) (w : World) :
    Calls Tryd.prog 12 #[.agg A, .agg B, .int .u64 (now : Int)] w fun e w' => e = .returned (.bool (duB r last tries now)) ∧ Below w.heap.size w w' := by
  have HA : Hid (A = (rlC r).toArray) := hA
  have HB : Hid (B = (tmC last tries).toArray) := hB
  have HR : Hid (RlW r) := hr
  have HL : Hid (last < 18446744073709551616) := hl
  have HN : Hid (now < 18446744073709551616) := hn
  have HD : Hid (duB r last tries now = decide (wtN r tries ≤ snN last now)) := rfl
  obtain ⟨G, hG⟩ : ∃ G, G = duB r last tries now := ⟨_, rfl⟩
  rw [← hG] at HD ⊢
  clear hA hB hr hl hn hG
  go_enter Tryd.func12, Tryd.ntmps12
  go_wp2_with (refine wpList_box_blk rfl 27 _ rfl (rlC r) (by rw [← HA.out]; rfl) ?_)
  intro w1 r1 b1 s1
  go_wp2_with (refine wpList_box_blk rfl 34 _ rfl (tmC last tries) (by rw [← HB.out]; rfl) ?_)
  intro w2 r2 b2 s2
  obtain ⟨g1, hg1⟩ : ∃ n : Nat, n = w.heap.size := ⟨_, rfl⟩
  obtain ⟨g2, hg2⟩ : ∃ n : Nat, n = w1.heap.size := ⟨_, rfl⟩
  rw [← hg1] at r1 ⊢
  rw [← hg2] at r2 ⊢
  have R2 : Hid (BlkAt g1 27 (rlC r) w2) := r1.kept b2
  have T2 : Hid (BlkAt g2 34 (tmC last tries) w2) := r2
  have HB2 : Hid (Below w.heap.size w w2) := stepB b1 b2
  clear r1 r2 b1 b2 s1 s2 hg1 hg2 HA HB
  obtain ⟨x, hx⟩ : ∃ x, x = snN last now := ⟨_, rfl⟩
  obtain ⟨y, hy⟩ : ∃ y, y = wtN r tries := ⟨_, rfl⟩
  rw [← hx, ← hy] at HD
  have HX : Hid (x = snN last now) := hx
  have HY : Hid (y = wtN r tries) := hy
  have dI : decide ((y : Int) ≤ (x : Int)) = G := by rw [HD.out]; exact decide_eq_decide.2 (by omega)
  have dN : decide (y ≤ x) = G := by rw [HD.out]
  clear hx hy
  go_wp2_with fail
  refine wpG_begin (by kernel_rfl) ?_
  refine gU_ 0 rfl ⟨_, by intro W hW; go_simp <;> with_reducible rfl, ?_⟩
  try simp only [Act.put, pA_, pB_, pC_]
  refine gU_ 1 rfl ⟨_, by intro W hW; have cW : W.cell? ⟨g2, 0, none⟩ = some (.int .u64 (last : Int)) := (T2.out.drew.kept hW).cell 0; go_simp <;> with_reducible rfl, ?_⟩
  try simp only [Act.put, pA_, pB_, pC_]
  refine gU_ 2 rfl ⟨_, by intro W hW; go_simp <;> with_reducible rfl, ?_⟩
  try simp only [Act.put, pA_, pB_, pC_]
  refine gU_ 4 rfl ⟨_, by intro W hW; refine Eq.trans (exec_load_part 27 _ (by rfl) (by rfl) [] (rlC r) [] R2.out.drew hW (by simp) rfl Tryd.underlying27 rfl info_r22) ?_; with_reducible rfl, ?_⟩
  try simp only [Act.put, pA_, pB_, pC_]
  refine gU_ 5 rfl ⟨_, by intro W hW; go_simp <;> with_reducible rfl, ?_⟩
  try simp only [Act.put, pA_, pB_, pC_]
  refine gU_ 6 rfl ⟨_, by intro W hW; have cW : W.cell? ⟨g2, 1, none⟩ = some (.int .i64 tries) := (T2.out.drew.kept hW).cell 1; go_simp <;> with_reducible rfl, ?_⟩
  try simp only [Act.put, pA_, pB_, pC_]
  refine gD_ 3 fun K hK => ?_
  go_simp
  refine (since22_any last now HL.out HN.out _).mono ?_
  rintro e wa ⟨rfl, rfl⟩
  rw [← HX.out]
  refine hK.out _ _ (Below.refl _ _) ?_
  clear hK K
  try simp only [Act.put, pA_, pB_, pC_]
  refine gD_ 7 fun K hK => ?_
  go_simp
  refine (wait22_any r HR.out tries _ rfl _).mono ?_
  rintro e wb ⟨rfl, bb⟩
  rw [← HY.out]
  refine hK.out _ _ bb ?_
  clear hK K
  try simp only [Act.put, pA_, pB_, pC_]
  refine gU_ 8 rfl ⟨_, by intro W hW; go_simp <;> with_reducible rfl, ?_⟩
  try simp only [Act.put, pA_, pB_, pC_]
  refine gU_ 9 rfl ⟨_, by intro W hW; go_simp <;> with_reducible rfl, ?_⟩
  try simp only [Act.put, pA_, pB_, pC_]
  refine wpG_done (by kernel_rfl) ?_
  have HB3 : Hid (Below w.heap.size w wb) := stepB HB2.out.drew bb
  clear bb R2 T2 HB2
  go_wp2
  go_ret
  exact ⟨rfl, HB3.out⟩

theorem bodyPost_tm22 {P : Program} {fn : Func} {p q : Tmp} {ty bt : TypeId} {g : Nat} {cs : List Value} {d : TypeDesc} {v : Value} {R : Ending → World → Prop} {a : Act} {w : World} (h : fn.results = #[.cell p ty, .tmp q]) (hd : a.defers = [])
    (hp : a.tmps.getD p undef = .pointer (some ⟨g, 0, none⟩)) (hq : a.tmps.getD q undef = v) (hb : BlkAt g bt cs w) (hu : P.underlying ty = some d) (hrow : d.isRow = true) (hi : (P.info? ty).map (·.size) = some cs.length)
    (hR : R (.returned (.tuple #[.agg cs.toArray, v])) w) : bodyPost P fn R .ret a w := by
  refine bodyPost_ret ?_ hd hR
  have hp' : a.tmps[p]?.getD undef = .pointer (some ⟨g, 0, none⟩) := by simpa using hp
  have hq' : a.tmps[q]?.getD undef = v := by simpa using hq
  have hb' : BlkAt g bt (([] : List Value) ++ cs ++ []) w := by simpa using hb
  have hl := run_loadVar_mid (P := P) w g 0 ty cs d hb'.range hu hrow hi
  simp [results, h, hp', hq', asAddr, hl]
theorem alloc_t22 (w : World) : (Instr.alloc 34 true (.tuple #[])).run Tryd.prog w = .ok (.pointer (some ⟨w.heap.size, 0, none⟩)) (w.alloc (.cells (tmC 0 0).toArray 34)) := by kernel_rfl
theorem build_t22 (x : Nat) (y : Int) (w : World) : (Instr.build 34 #[(0, .int .u64 (x : Int)), (1, .int .i64 y)]).run Tryd.prog w = .ok (.agg (tmC x y).toArray) w := by kernel_rfl
theorem one_t22 (x : Nat) (y : Int) : (tmC x y).toArray.all (·.oneCell') = true := by kernel_rfl

set_option maxRecDepth 100000 in
set_option maxHeartbeats 4000000 in
theorem again22_any (r : Rl) (hr : RlW r) (last : Nat) (tries : Int) (now : Nat) (ht : -9223372036854775808 ≤ tries ∧ tries ≤ 9223372036854775807) (A B : Array Value) (hA : A = (rlC r).toArray) (hB : B = (tmC last tries).toArray) (w : World) :
    Calls Tryd.prog 14 #[.agg A, .agg B, .int .u64 (now : Int)] w fun e w' => e = .returned (.tuple #[.agg (tmC (agT r last tries now).1.1 (agT r last tries now).1.2).toArray, .bool (agT r last tries now).2]) ∧ Below w.heap.size w w' := by
  have HA : Hid (A = (rlC r).toArray) := hA
  have HB : Hid (B = (tmC last tries).toArray) := hB
  have HR : Hid (RlW r) := hr
  have HTr : Hid (-9223372036854775808 ≤ tries ∧ tries ≤ 9223372036854775807) := ht
  have HG : Hid (agT r last tries now = if r.tries ≤ tries then ((last, tries), false) else ((now, tries + 1), true)) := rfl
  obtain ⟨G, hG⟩ : ∃ G, G = agT r last tries now := ⟨_, rfl⟩
  rw [← hG] at HG ⊢
  have htr := hr.tries
  obtain ⟨R2, hR2⟩ : ∃ x, x = r.tries := ⟨_, rfl⟩
  rw [← hR2] at HG htr
  have HR2 : Hid (R2 = r.tries) := hR2
  have HTt : Hid (-9223372036854775808 ≤ R2 ∧ R2 ≤ 9223372036854775807) := htr
  clear hA hB hr hG ht hR2 htr
  go_enter Tryd.func14, Tryd.ntmps14
  go_wp2_with (refine wpList_box_blk rfl 27 _ rfl (rlC r) (by rw [← HA.out]; rfl) ?_)
  intro w1 r1 b1 s1
  go_wp2_with (refine wpList_box_blk rfl 34 _ rfl (tmC last tries) (by rw [← HB.out]; rfl) ?_)
  intro w2 r2 b2 s2
  go_wp2_with (refine wpList_alloc_blk rfl 34 rfl (tmC 0 0) (alloc_t22 _) ?_)
  intro w3 r3 b3 s3
  obtain ⟨g1, hg1⟩ : ∃ n : Nat, n = w.heap.size := ⟨_, rfl⟩
  obtain ⟨g2, hg2⟩ : ∃ n : Nat, n = w1.heap.size := ⟨_, rfl⟩
  obtain ⟨g3, hg3⟩ : ∃ n : Nat, n = w2.heap.size := ⟨_, rfl⟩
  rw [← hg1] at r1 ⊢
  rw [← hg2] at r2 ⊢
  rw [← hg3] at r3 ⊢
  have q1 := (r1.kept b2).kept b3
  have T3 : Hid (BlkAt g2 34 (tmC last tries) w3) := r2.kept b3
  have S3 : Hid (BlkAt g3 34 (tmC 0 0) w3) := r3
  have HB3 : Hid (Below w.heap.size w w3) := stepB (stepB b1 b2) b3
  have HG3 : Hid (w.heap.size ≤ g3) := by show _ ≤ _; rw [hg3]; exact (stepB b1 b2).size
  have c2 : w3.cell? ⟨g1, 2, none⟩ = some (.int .i64 R2) := by rw [HR2.out]; exact q1.cell 2
  have c1 : w3.cell? ⟨g2, 1, none⟩ = some (.int .i64 tries) := T3.out.cell 1
  clear q1 r1 r2 r3 b1 b2 b3 s1 s2 s3 hg1 hg2 hg3 HA HB
  by_cases h : R2 ≤ tries
  · have d : decide (R2 ≤ tries) = true := decide_eq_true h
    have hG : G = ((last, tries), false) := by rw [HG.out, if_pos h]
    subst hG
    clear h HG
    go_wp2_with (first | refine wpList_load_part rfl 34 _ rfl rfl [] (tmC last tries) [] T3.out (by simp) rfl Tryd.underlying34 rfl info_t22 ?_ | (refine wpList_store_part rfl 34 _ _ rfl rfl (tmC last tries) rfl [] (tmC 0 0) [] (tmC last tries) S3.out (by simp) (by simp) rfl rfl info_t22 (one_t22 _ _) ?_; intro wz wzr wzw))
    have wzr2 : BlkAt g3 34 (tmC last tries) wz := by simpa using wzr
    refine bodyPost_tm22 rfl rfl rfl rfl wzr2 Tryd.underlying34 rfl info_t22 ?_
    exact ⟨rfl, wzw.below _ _ HG3.out HB3.out⟩
  · have d : decide (R2 ≤ tries) = false := decide_eq_false h
    have hG : G = ((now, tries + 1), true) := by rw [HG.out, if_neg h]
    subst hG
    have hwr : IntKind.i64.wrap (tries + 1) = tries + 1 := by have := HTr.out; have := HTt.out; rw [IntKind.wrap_i64]; omega
    clear h HG
    go_wp2_with (first | refine wpList_buildB rfl 34 _ rfl #[(0, .int .u64 (now : Int)), (1, .int .i64 (tries + 1))] (by go_simp; done) _ (build_t22 _ _ _) ?_ | (refine wpList_store_part rfl 34 _ _ rfl rfl (tmC now (tries + 1)) rfl [] (tmC 0 0) [] (tmC now (tries + 1)) S3.out (by simp) (by simp) rfl rfl info_t22 (one_t22 _ _) ?_; intro wz wzr wzw))
    have wzr2 : BlkAt g3 34 (tmC now (tries + 1)) wz := by simpa using wzr
    refine bodyPost_tm22 rfl rfl rfl rfl wzr2 Tryd.underlying34 rfl info_t22 ?_
    exact ⟨rfl, wzw.below _ _ HG3.out HB3.out⟩
end Go.Proofs.YtliiofjcghdjoaaDoor

/- Rules as the document's own text has them. -/
namespace Go.Proofs.YtliiofjcghdjoaaDoor
open Go.ChangeShapes Go.WideShapes Go.ChangeAt Go.RowKit
set_option linter.unusedSimpArgs false
set_option linter.unusedVariables false

theorem alloc_r22 (w : World) : (Instr.alloc 27 true (.tuple #[])).run Tryd.prog w = .ok (.pointer (some ⟨w.heap.size, 0, none⟩)) (w.alloc (.cells (rlC ⟨0, 0, 0, 0, 0, 0, 0⟩).toArray 27)) := by kernel_rfl
theorem build_r22 (r0 r1 : Nat) (r2 : Int) (r3 r4 r5 r6 : Nat) (w : World) : (Instr.build 27 #[(0, .int .u64 (r0 : Int)), (1, .int .u64 (r1 : Int)), (2, .int .i64 r2), (3, .int .u64 (r3 : Int)), (4, .int .u64 (r4 : Int)), (5, .int .u64 (r5 : Int)), (6, .int .u64 (r6 : Int))]).run Tryd.prog w = .ok (.agg #[.int .u64 (r0 : Int), .int .u64 (r1 : Int), .int .i64 r2, .int .u64 (r3 : Int), .int .u64 (r4 : Int), .int .u64 (r5 : Int), .int .u64 (r6 : Int)]) w := by kernel_rfl

set_option maxRecDepth 100000 in
set_option maxHeartbeats 4000000 in
theorem rules_any (r : Rl) (A : Array Value) (hA : A = (rlC r).toArray) (w : World) :
    Calls Tryd.prog 8 #[.agg A] w fun e w' => e = .returned (.agg (rlC r).toArray) ∧ Below w.heap.size w w' := by
  have HA : Hid (A = (rlC r).toArray) := hA
  clear hA
  go_enter Tryd.func8, Tryd.ntmps8
  go_wp2_with (refine wpList_box_blk rfl 24 _ rfl (rlC r) (by rw [← HA.out]; rfl) ?_)
  intro w1 r1 b1 s1
  go_wp2_with (refine wpList_alloc_blk rfl 27 rfl (rlC ⟨0, 0, 0, 0, 0, 0, 0⟩) (alloc_r22 _) ?_)
  intro w2 r2 b2 s2
  obtain ⟨g1, hg1⟩ : ∃ n : Nat, n = w.heap.size := ⟨_, rfl⟩
  obtain ⟨g2, hg2⟩ : ∃ n : Nat, n = w1.heap.size := ⟨_, rfl⟩
  rw [← hg1] at r1 ⊢
  rw [← hg2] at r2 ⊢
  have q1 := r1.kept b2
  have H2 : Hid (BlkAt g2 27 (rlC ⟨0, 0, 0, 0, 0, 0, 0⟩) w2 ∧ Below w.heap.size w w2 ∧ w.heap.size ≤ g2) := ⟨r2, stepB b1 b2, by have := b1.size; omega⟩
  have c0 : w2.cell? ⟨g1, 0, none⟩ = some (.int .u64 (r.retry : Int)) := q1.cell 0
  have c1 : w2.cell? ⟨g1, 1, none⟩ = some (.int .u64 (r.rmax : Int)) := q1.cell 1
  have c2 : w2.cell? ⟨g1, 2, none⟩ = some (.int .i64 r.tries) := q1.cell 2
  have c3 : w2.cell? ⟨g1, 3, none⟩ = some (.int .u64 (r.rekey : Int)) := q1.cell 3
  have c4 : w2.cell? ⟨g1, 4, none⟩ = some (.int .u64 (r.expire : Int)) := q1.cell 4
  have c5 : w2.cell? ⟨g1, 5, none⟩ = some (.int .u64 (r.rcount : Int)) := q1.cell 5
  have c6 : w2.cell? ⟨g1, 6, none⟩ = some (.int .u64 (r.ecount : Int)) := q1.cell 6
  clear r1 r2 b1 b2 s1 s2 hg1 hg2 q1 HA
  go_wp2_with (first | refine wpList_buildB rfl 27 _ rfl #[(0, .int .u64 (r.retry : Int)), (1, .int .u64 (r.rmax : Int)), (2, .int .i64 r.tries), (3, .int .u64 (r.rekey : Int)), (4, .int .u64 (r.expire : Int)), (5, .int .u64 (r.rcount : Int)), (6, .int .u64 (r.ecount : Int))] (by go_simp; done) _ (build_r22 _ _ _ _ _ _ _ _) ?_ | (refine wpList_store_part rfl 27 _ _ rfl rfl (rlC r) rfl [] (rlC ⟨0, 0, 0, 0, 0, 0, 0⟩) [] (rlC r) H2.out.1 rfl rfl rfl rfl info_r22 (one_rl _) ?_; intro wz wzr wzw))
  refine bodyPost_blk rfl rfl rfl wzr Tryd.underlying27 rfl info_r22 ?_
  exact ⟨rfl, wzw.below _ _ H2.out.2.2 H2.out.2.1⟩
end Go.Proofs.YtliiofjcghdjoaaDoor

/- Numbers of 64 bits that came in. No program's text is named. -/
namespace Go.Proofs.YtliiofjcghdjoaaDoor
open Go.ChangeShapes Go.WideShapes Go.ChangeAt Go.RowKit
set_option linter.unusedSimpArgs false
set_option linter.unusedVariables false

/-- Numbers that came in. -/
structure NuI (w : World) (v : Value) (xs : List Nat) : Prop where
  rd : RdI .u64 w v (nU xs)
  lim : ∀ x ∈ xs, x < 18446744073709551616
theorem NuI.at {w w' : World} {v : Value} {xs : List Nat} {a : Option Addr} {n c : Nat} (h : NuI w v xs) (hv : v = .slice a n c) (hb : Below w.heap.size w w') {i : Nat} (hi : i < xs.length) :
    ∃ b off, a = some ⟨b, off, none⟩ ∧ w'.cell? ⟨b, off + i, none⟩ = some (.int .u64 ((xs.getD i 0 : Nat) : Int)) ∧ xs.getD i 0 < 18446744073709551616 := by
  obtain ⟨a', c', e1, h2, h3, -, h5⟩ := h.rd.kept hb
  rw [hv] at e1
  simp only [Value.slice.injEq] at e1
  obtain ⟨rfl, -, -⟩ := e1
  rcases h5 with h5 | ⟨b, off, rfl, hc⟩
  · have := nU_length xs
    rw [h5] at this
    simp at this
    omega
  · refine ⟨b, off, rfl, by rw [hc i (by rw [nU_length]; exact hi), nU_getD], ?_⟩
    have : xs.getD i 0 = xs[i] := by simp [hi]
    rw [this]
    exact h.lim _ (List.getElem_mem hi)
end Go.Proofs.YtliiofjcghdjoaaDoor

/- Rules that come in: what a law's argument of this kind is. -/
namespace Go.Proofs.YtliiofjcghdjoaaDoor
open Go.ChangeShapes Go.WideShapes Go.ChangeAt Go.RowKit
set_option linter.unusedSimpArgs false
set_option linter.unusedVariables false

theorem array7 {α : Type} {cs : Array α} (h : cs.size = 7) : ∃ c0 c1 c2 c3 c4 c5 c6, cs = #[c0, c1, c2, c3, c4, c5, c6] := by
  obtain ⟨l⟩ := cs
  match l, h with
  | [c0, c1, c2, c3, c4, c5, c6], _ => exact ⟨c0, c1, c2, c3, c4, c5, c6, rfl⟩
theorem i64_in22 {a : Int} (h : (Lit.int .i64 a).wf = true) : -9223372036854775808 ≤ a ∧ a ≤ 9223372036854775807 := by
  simp [Lit.wf, IntKind.min, IntKind.max, IntKind.bits, IntKind.signed] at h
  omega
theorem u64_in22 {a : Int} (h : (Lit.int .u64 a).wf = true) : 0 ≤ a ∧ a < 18446744073709551616 := by
  simp [Lit.wf, IntKind.min, IntKind.max, IntKind.bits, IntKind.signed] at h
  omega

set_option maxRecDepth 100000 in
set_option maxHeartbeats 1000000 in
theorem rl_open {H : Type} {enc : TypeId × Value → H} {W : World} {r : Reach} {b0 base : Nat} {spare : Nat → Bool} {held : Bool} {v : Value} {d : DataW H} {pl : List MemPlace} (hv : Value.okWide Tryd.prog W r b0 24 v) (h : DataW.Trod enc Tryd.prog W base spare held 24 v d pl) :
    ∃ q : Rl, v = .agg (rlC q).toArray ∧ RlW q := by
  obtain ⟨cs, rfl, hsz⟩ := okWide_struct Tryd.underlying24 hv
  have k0 : Tryd.prog.cellsOf 24 = 7 := by kernel_rfl
  rw [k0] at hsz
  obtain ⟨c0, c1, c2, c3, c4, c5, c6, rfl⟩ := array7 hsz
  obtain ⟨fuel, hf⟩ := h
  obtain ⟨xs, n, -, -, hl, hlen, hx⟩ := DataW.trod_struct Tryd.underlying24 hf
  have k1 : Tryd.prog.cellsOf 3 = 1 := by kernel_rfl
  have k3 : Tryd.prog.cellsOf 22 = 1 := by kernel_rfl
  match xs, hlen, hx with
  | [y0, y1, y2, y3, y4, y5, y6], _, hx =>
    have h0 : DataW.trod enc Tryd.prog W base spare held n 22 [c0] = some y0 := by simpa [Value.cells, k3] using hx 0 _ rfl
    have h1 : DataW.trod enc Tryd.prog W base spare held n 22 [c1] = some y1 := by simpa [Value.cells, k3] using hx 1 _ rfl
    have h2 : DataW.trod enc Tryd.prog W base spare held n 3 [c2] = some y2 := by simpa [Value.cells, k1] using hx 2 _ rfl
    have h3 : DataW.trod enc Tryd.prog W base spare held n 22 [c3] = some y3 := by simpa [Value.cells, k3] using hx 3 _ rfl
    have h4 : DataW.trod enc Tryd.prog W base spare held n 22 [c4] = some y4 := by simpa [Value.cells, k3] using hx 4 _ rfl
    have h5 : DataW.trod enc Tryd.prog W base spare held n 22 [c5] = some y5 := by simpa [Value.cells, k3] using hx 5 _ rfl
    have h6 : DataW.trod enc Tryd.prog W base spare held n 22 [c6] = some y6 := by simpa [Value.cells, k3] using hx 6 _ rfl
    clear hx hf hv hsz hl
    obtain ⟨z0, e0, -, w0⟩ := DataW.trod_int Tryd.underlying22 h0
    obtain ⟨z1, e1, -, w1⟩ := DataW.trod_int Tryd.underlying22 h1
    obtain ⟨z2, e2, -, w2⟩ := DataW.trod_int Tryd.underlying3 h2
    obtain ⟨z3, e3, -, w3⟩ := DataW.trod_int Tryd.underlying22 h3
    obtain ⟨z4, e4, -, w4⟩ := DataW.trod_int Tryd.underlying22 h4
    obtain ⟨z5, e5, -, w5⟩ := DataW.trod_int Tryd.underlying22 h5
    obtain ⟨z6, e6, -, w6⟩ := DataW.trod_int Tryd.underlying22 h6
    simp at e0 e1 e2 e3 e4 e5 e6
    subst e0 e1 e2 e3 e4 e5 e6
    have g0 := u64_in22 w0
    have g1 := u64_in22 w1
    have g2 := i64_in22 w2
    have g3 := u64_in22 w3
    have g4 := u64_in22 w4
    have g5 := u64_in22 w5
    have g6 := u64_in22 w6
    refine ⟨⟨z0.toNat, z1.toNat, z2, z3.toNat, z4.toNat, z5.toNat, z6.toNat⟩, ?_, ⟨?_, ?_, g2, ?_, ?_, ?_, ?_⟩⟩
    · unfold rlC
      rw [show ((z0.toNat : Nat) : Int) = z0 by omega, show ((z1.toNat : Nat) : Int) = z1 by omega, show ((z3.toNat : Nat) : Int) = z3 by omega, show ((z4.toNat : Nat) : Int) = z4 by omega, show ((z5.toNat : Nat) : Int) = z5 by omega, show ((z6.toNat : Nat) : Int) = z6 by omega]
    all_goals
      first
      | (show z0.toNat < _; omega)
      | (show z1.toNat < _; omega)
      | (show z3.toNat < _; omega)
      | (show z4.toNat < _; omega)
      | (show z5.toNat < _; omega)
      | (show z6.toNat < _; omega)
end Go.Proofs.YtliiofjcghdjoaaDoor

/- Numbers of 64 bits that come in. -/
namespace Go.Proofs.YtliiofjcghdjoaaDoor
open Go.ChangeShapes Go.WideShapes Go.ChangeAt Go.RowKit
set_option linter.unusedSimpArgs false
set_option linter.unusedVariables false

theorem add_lit20 (b off i : Nat) : (⟨b, off, none⟩ : Addr).add i = ⟨b, off + i, none⟩ := by unfold Addr.add; split <;> simp_all
theorem nums20_open {H : Type} {enc : TypeId × Value → H} {W : World} {base fuel : Nat} {spare : Nat → Bool} {held : Bool} {v : Value} {x : DataW H × List MemPlace} (h : DataW.trod enc Tryd.prog W base spare held fuel 25 [v] = some x) :
    ∃ xs : List Nat, NuI W v xs := by
  rcases open_ints Tryd.underlying25 Tryd.underlying22 (by kernel_rfl) h with ⟨hcs, _⟩ | ⟨a, len, cap, zs, hcs, _, hl, hm, hz, _, hcell, hwz⟩
  · simp at hcs
    subst hcs
    exact ⟨[], RdI.nil .u64 W, fun x hx => by cases hx⟩
  · simp at hcs
    subst hcs
    have hzl : len ≤ zs.length := by rw [hz]; split <;> omega
    have hlen : (nU ((zs.take len).map Int.toNat)).length = len := by rw [nU_length]; simp; omega
    refine ⟨(zs.take len).map Int.toNat, ⟨some a, cap, by rw [hlen], by rw [hlen]; exact hl, hm, (fun h => by cases h), ?_⟩, ?_⟩
    · by_cases h0 : len = 0
      · left; exact List.eq_nil_of_length_eq_zero (by rw [hlen]; exact h0)
      · right
        obtain ⟨b, off, spot⟩ := a
        have hspot : spot = none := by simpa [Addr.add] using World.cell?_spot (hcell 0 (by omega))
        subst hspot
        refine ⟨b, off, rfl, fun i hi => ?_⟩
        rw [hlen] at hi
        have h1 := hcell i (by omega)
        rw [add_lit20] at h1
        rw [h1, nU_getD]
        have h2 : i < zs.length := by omega
        have h3 := bounds_u64 (hwz zs[i] (List.getElem_mem h2))
        have e1 : ((zs.take len).map Int.toNat).getD i 0 = zs[i].toNat := by simp [h2, hi]
        have e2 : zs.getD i 0 = zs[i] := by simp [h2]
        rw [e1]
        have e3 : ((zs[i].toNat : Nat) : Int) = zs[i] := Int.toNat_of_nonneg h3.1
        rw [e3]
        first | rfl | rw [e2] | simp [h2]
    · intro y hy
      obtain ⟨z, hz1, rfl⟩ := List.mem_map.1 hy
      have := bounds_u64 (hwz z (List.mem_of_mem_take hz1))
      omega
end Go.Proofs.YtliiofjcghdjoaaDoor

/- Scripts of steps, and rows of rows of bytes, that come in: what a law's arguments of these kinds are. -/
namespace Go.Proofs.YtliiofjcghdjoaaDoor
open Go.ChangeShapes Go.WideShapes Go.ChangeAt Go.RowKit
set_option linter.unusedSimpArgs false
set_option linter.unusedVariables false

/-- A slice of bytes that came in. -/
theorem rdB_open {H : Type} {enc : TypeId × Value → H} {P : Program} {W : World} {base fuel : Nat} {spare : Nat → Bool} {held : Bool} {t e : TypeId} {v : Value} {x : DataW H × List MemPlace} (ht : P.underlying t = some (.slice e)) (he : P.underlying e = some (.int .u8)) (hc : P.cellsOf e = 1)
    (h : DataW.trod enc P W base spare held fuel t [v] = some x) : ∃ l, Rd W v l := by
  rcases open_ints ht he hc h with ⟨hcs, _⟩ | ⟨a, len, cap, zs, hcs, _, hl, hm, hz, _, hcell, hwz⟩
  · simp at hcs
    subst hcs
    exact ⟨[], Rd.nil W⟩
  · simp at hcs
    subst hcs
    have hzl : len ≤ zs.length := by rw [hz]; split <;> omega
    have hlen : ((zs.take len).map fun n => UInt8.ofNat n.toNat).length = len := by simp; omega
    refine ⟨(zs.take len).map fun n => UInt8.ofNat n.toNat, _, cap, by rw [hlen], by rw [hlen]; exact hl, hm, (fun h => by cases h), ?_⟩
    by_cases h0 : len = 0
    · left; exact List.eq_nil_of_length_eq_zero (by rw [hlen]; exact h0)
    · right
      obtain ⟨b, off, spot⟩ := a
      have hspot : spot = none := by simpa [Addr.add] using World.cell?_spot (hcell 0 (by omega))
      subst hspot
      refine ⟨b, off, rfl, fun i hi => ?_⟩
      rw [hlen] at hi
      have h1 := hcell i (by omega)
      have hplain : (⟨b, off, none⟩ : Addr).add i = ⟨b, off + i, none⟩ := by unfold Addr.add; split <;> simp_all
      rw [hplain] at h1
      rw [h1]
      have h2 : i < zs.length := by omega
      have h3 := wf_u8 (hwz zs[i] (List.getElem_mem h2))
      congr 2
      simp only [List.getD_eq_getElem?_getD, List.getElem?_map, List.getElem?_take, hi, if_true, List.getElem?_eq_getElem h2, Option.map_some, Option.getD_some, UInt8.toNat_ofNat']
      omega

theorem nat_of64 {a : Int} (h : (Lit.int .u64 a).wf = true) : ∃ n : Nat, a = (n : Int) ∧ n < 18446744073709551616 := by
  have h2 : 0 ≤ a ∧ a < 18446744073709551616 := by
    simp [Lit.wf, IntKind.min, IntKind.max, IntKind.bits, IntKind.signed] at h
    omega
  exact ⟨a.toNat, by omega, by omega⟩
theorem str_size16 (l : List UInt8) : (⟨l.toArray⟩ : ByteArray).size = l.length := by simp [ByteArray.size]

/-- Steps, raw: what kind, bytes, a number. -/
abbrev Acs := List (Int × List UInt8 × Nat)
def AcR (w : World) (v : Value) (ks : Acs) : Prop :=
  ∃ a cap, v = .slice a ks.length cap ∧ ks.length ≤ cap ∧ cap ≤ maxLen ∧ (ks = [] ∨ ∃ b off, a = some ⟨b, off, none⟩ ∧ ∀ k (h : k < ks.length), ∃ vb, w.cell? ⟨b, off + 3 * k, none⟩ = some (.int .i64 ks[k].1) ∧ w.cell? ⟨b, off + (3 * k + 1), none⟩ = some vb ∧ w.cell? ⟨b, off + (3 * k + 2), none⟩ = some (.int .u64 (ks[k].2.2 : Int)) ∧ Rd w vb ks[k].2.1)
theorem AcR.kept {w w' : World} {v : Value} {ks : Acs} (h : AcR w v ks) (hb : Below w.heap.size w w') : AcR w' v ks := by
  obtain ⟨a, cap, e, h1, h2, h3⟩ := h
  refine ⟨a, cap, e, h1, h2, h3.imp id ?_⟩
  rintro ⟨b, off, e2, hc⟩
  refine ⟨b, off, e2, fun k hk => ?_⟩
  obtain ⟨vb, c1, c2, c3, c4⟩ := hc k hk
  refine ⟨vb, ?_, ?_, ?_, c4.kept hb⟩
  · rw [hb.cell (World.block_lt_of_cell? _ _ c1)]
    exact c1
  · rw [hb.cell (World.block_lt_of_cell? _ _ c2)]
    exact c2
  · rw [hb.cell (World.block_lt_of_cell? _ _ c3)]
    exact c3
theorem add_lit3 (b off i : Nat) : (⟨b, off, none⟩ : Addr).add i = ⟨b, off + i, none⟩ := by unfold Addr.add; split <;> simp_all
theorem add_three {b off i j : Nat} : ((⟨b, off, none⟩ : Addr).add (i * 3)).add j = ⟨b, off + (3 * i + j), none⟩ := by
  rw [add_lit3, add_lit3, Nat.mul_comm i 3, Nat.add_assoc]

/-- Rows of bytes that came in. -/
theorem rows_open {H : Type} {enc : TypeId × Value → H} {W : World} {base fuel : Nat} {spare : Nat → Bool} {held : Bool} {v : Value} {x : DataW H × List MemPlace} (h : DataW.trod enc Tryd.prog W base spare held fuel 52 [v] = some x) :
    ∃ vs ls, RdL W v vs ls := by
  have k2 : Tryd.prog.cellsOf 40 = 1 := by kernel_rfl
  rcases Deep.open_slice1 Tryd.underlying52 k2 h with ⟨e, -⟩ | ⟨a, len, cap, mm, n2, V, D, Pl, e, -, hl, hm, hmm, -, hc⟩
  · simp at e
    subst e
    exact ⟨[], [], ⟨none, 0, rfl, by simp, by simp, .inl rfl⟩, rfl, fun i hi => by simp at hi⟩
  · simp at e
    subst e
    have hlm : len ≤ mm := by rw [hmm]; split <;> omega
    have hrow : ∀ r, r < len → ∃ l : List UInt8, Rd W (V r) l := fun r hr0 => rdB_open Tryd.underlying40 Tryd.underlying5 (by kernel_rfl) (hc r (by omega)).2
    obtain ⟨f, hf⟩ := Go.Deep.choose_lt hrow
    refine ⟨(List.range len).map V, (List.range len).map f, ⟨some a, cap, by simp, by simpa using hl, hm, ?_⟩, by simp, fun i hi => ?_⟩
    · by_cases h0 : len = 0
      · left; subst h0; simp
      · right
        obtain ⟨b, off, spot⟩ := a
        have hspot : spot = none := by simpa [Addr.add] using World.cell?_spot (hc 0 (by omega)).1
        subst hspot
        refine ⟨b, off, rfl, fun i hi => ?_⟩
        have hi' : i < len := by simpa using hi
        have h1 := (hc i (by omega)).1
        have hplain : (⟨b, off, none⟩ : Addr).add i = ⟨b, off + i, none⟩ := by unfold Addr.add; split <;> simp_all
        rw [hplain] at h1
        rw [h1]
        simp [hi']
    · have hi' : i < len := by simpa using hi
      simpa [hi'] using hf i hi'
end Go.Proofs.YtliiofjcghdjoaaDoor

/- Rows that grow by one, all their cells told; bytes stay where no cell that is written is one. No program's text is named. -/
namespace Go.Proofs.YtliiofjcghdjoaaDoor
open Go.ChangeShapes Go.WideShapes Go.ChangeAt Go.RowKit
set_option linter.unusedSimpArgs false
set_option linter.unusedVariables false

/-- All bytes stay. -/
def K8 (w w' : World) : Prop := ∀ b o x, w.cell? ⟨b, o, none⟩ = some (.int .u8 x) → w'.cell? ⟨b, o, none⟩ = some (.int .u8 x)
theorem K8.refl (w : World) : K8 w w := fun _ _ _ h => h
theorem K8.trans {a b c : World} (h : K8 a b) (k : K8 b c) : K8 a c := fun _ _ _ e => k _ _ _ (h _ _ _ e)
theorem K8.of_below {w w' : World} (h : Below w.heap.size w w') : K8 w w' := fun b o x e => by
  rw [h.cell (World.block_lt_of_cell? _ _ e)]
  exact e
theorem K8.of_chg {S : Nat → Prop} {w w' : World} (c : Chg S w w') (hS : ∀ b, S b → ∀ o x, w.cell? ⟨b, o, none⟩ ≠ some (.int .u8 x)) : K8 w w' := fun b o x e => by
  have hb : ¬ S b := fun h => hS b h o x e
  rw [World.cell?_of_block (w := w) (c.block b (World.block_lt_of_cell? _ _ e) hb)]
  exact e
theorem K8.blk {g : Nat} {ty : TypeId} {cs : List Value} {w w' : World} (hb : BlkAt g ty cs w) (hn : No8 cs) (c : Chg (fun b => b = g) w w') : K8 w w' := K8.of_chg c fun b h o x e => by
  subst h
  rw [hb.cell] at e
  exact hn _ _ e
theorem Rd.k8 {w w' : World} {v : Value} {l : List UInt8} (h : Rd w v l) (k : K8 w w') : Rd w' v l := by
  obtain ⟨a, c, e1, h2, h3, h4, h5⟩ := h
  refine ⟨a, c, e1, h2, h3, h4, h5.imp id ?_⟩
  rintro ⟨b, off, e2, hc⟩
  exact ⟨b, off, e2, fun i hi => k _ _ _ (hc i hi)⟩

theorem zeroC {z : Value} (h : z.cells = #[z]) (n : Nat) : Builtin.zeroCells z.cells n = (List.replicate n z).toArray := by
  rw [h]
  unfold Builtin.zeroCells
  apply Array.ext
  · simp
  · intro i h1 h2
    simp [Nat.mod_one]
/-- A row of one's own, what is behind its end told too. -/
def Zr (e : TypeId) (z : Value) (base : Nat) (v : Value) (xs : List Value) (w : World) : Prop :=
  (v = .slice none 0 0 ∧ xs = []) ∨ ∃ g cap, v = .slice (some ⟨g, 0, none⟩) xs.length cap ∧ base ≤ g ∧ xs.length ≤ cap ∧ cap ≤ maxLen ∧ BlkAt g e (xs ++ List.replicate (cap - xs.length) z) w
theorem Zr.nil (e : TypeId) (z : Value) (base : Nat) (w : World) : Zr e z base (.slice none 0 0) [] w := .inl ⟨rfl, rfl⟩
theorem Zr.kept {e : TypeId} {z : Value} {base : Nat} {v : Value} {xs : List Value} {w w' : World} (h : Zr e z base v xs w) (hb : Below w.heap.size w w') : Zr e z base v xs w' := by
  rcases h with h | ⟨g, cap, h1, h2, h3, h4, h5⟩
  · exact .inl h
  · exact .inr ⟨g, cap, h1, h2, h3, h4, h5.kept hb⟩
theorem Zr.ne {e ty : TypeId} {z : Value} {base : Nat} {v : Value} {xs cs : List Value} {g : Nat} {w : World} (h : Zr e z base v xs w) (hb : BlkAt g ty cs w) (hne : e ≠ ty) : ∀ b, v.ownBlock = some b → b ≠ g := by
  rcases h with ⟨rfl, -⟩ | ⟨g', cap, rfl, h2, h3, h4, h5⟩
  · intro b hb; simp [Value.ownBlock] at hb
  · intro b hb' e1
    have h6 : g' = b := by simpa [Value.ownBlock] using hb'
    subst e1 h6
    unfold BlkAt at hb h5
    rw [hb] at h5
    simp at h5
    exact hne h5.2.symm
theorem Zr.ne2 {e e2 : TypeId} {z z2 : Value} {base base2 : Nat} {v v2 : Value} {xs xs2 : List Value} {w : World} (h : Zr e z base v xs w) (h2 : Zr e2 z2 base2 v2 xs2 w) (hne : e ≠ e2) : ∀ b, v.ownBlock = some b → v2.ownBlock ≠ some b := by
  rcases h2 with ⟨rfl, -⟩ | ⟨g', cap, rfl, -, h3, h4, h5⟩
  · intro b hb; simp [Value.ownBlock]
  · intro b hb' e1
    have h6 : g' = b := by simpa [Value.ownBlock] using e1
    exact h.ne h5 hne b hb' h6.symm
theorem Zr.lt {e : TypeId} {z : Value} {base : Nat} {v : Value} {xs : List Value} {w : World} (h : Zr e z base v xs w) : ∀ b, v.ownBlock = some b → base ≤ b ∧ b < w.heap.size := by
  rcases h with ⟨rfl, -⟩ | ⟨g', cap, rfl, h2, h3, h4, h5⟩
  · intro b hb; simp [Value.ownBlock] at hb
  · intro b hb
    have h6 : g' = b := by simpa [Value.ownBlock] using hb
    subst h6
    exact ⟨h2, h5.lt⟩
theorem Zr.chg {e : TypeId} {z : Value} {base : Nat} {v : Value} {xs : List Value} {S : Nat → Prop} {w w' : World} (h : Zr e z base v xs w) (c : Chg S w w') (hS : ∀ b, v.ownBlock = some b → ¬ S b) : Zr e z base v xs w' := by
  rcases h with h | ⟨g, cap, rfl, h2, h3, h4, h5⟩
  · exact .inl h
  · exact .inr ⟨g, cap, rfl, h2, h3, h4, h5.chg c (hS g rfl)⟩
/-- Where its element lies. -/
theorem Zr.at {e : TypeId} {z : Value} {base : Nat} {v : Value} {xs : List Value} {w : World} (h : Zr e z base v xs w) {i : Nat} (hi : i < xs.length) : ∃ g cap, v = .slice (some ⟨g, 0, none⟩) xs.length cap ∧ xs.length ≤ cap ∧ cap ≤ maxLen ∧ w.cell? ⟨g, i, none⟩ = some (xs.getD i undef) := by
  rcases h with ⟨-, rfl⟩ | ⟨g, cap, rfl, h2, h3, h4, h5⟩
  · simp at hi
  · refine ⟨g, cap, rfl, h3, h4, ?_⟩
    rw [h5.cell, List.getElem?_append_left hi]
    simp [hi]
theorem Zr.form {e : TypeId} {z : Value} {base : Nat} {v : Value} {xs : List Value} {w : World} (h : Zr e z base v xs w) : ∃ a c, v = .slice a xs.length c ∧ xs.length ≤ c ∧ c ≤ maxLen := by
  rcases h with ⟨rfl, rfl⟩ | ⟨g, cap, rfl, h2, h3, h4, h5⟩
  · exact ⟨none, 0, rfl, Nat.le_refl _, Nat.zero_le _⟩
  · exact ⟨_, _, rfl, h3, h4⟩
theorem Zr.no8 {e : TypeId} {z : Value} {base : Nat} {v : Value} {xs : List Value} {w : World} (h : Zr e z base v xs w) (hx : ∀ y ∈ xs, ∀ k, y ≠ .int .u8 k) (hz : ∀ k, z ≠ .int .u8 k) : ∀ b, some b = v.ownBlock → ∀ o x, w.cell? ⟨b, o, none⟩ ≠ some (.int .u8 x) := by
  rcases h with ⟨rfl, -⟩ | ⟨g', cap, rfl, h2, h3, h4, h5⟩
  · intro b hb; simp [Value.ownBlock] at hb
  · intro b hb o x hc
    have h6 : b = g' := by simpa [Value.ownBlock] using hb
    subst h6
    rw [h5.cell] at hc
    rcases List.mem_append.1 (List.mem_of_getElem? hc) with h | h
    · exact hx _ h _ rfl
    · exact hz _ (List.eq_of_mem_replicate h).symm

/-- One element more. -/
theorem wp_append_Z {P : Program} {base : Nat} {wr : World} {o : Oper} {a : Act} {K : Act → World → Prop} {Q : Exit → Act → World → Prop} (s x : Operand) (t : TypeId)
    (ho : o.op = .call { callee := .builtin .append, args := #[s, x], argTypes := #[t, t] }) (e : TypeId) (i : TypeInfo) (z : Value) (ht : P.underlying t = some (.slice e)) (hi : P.info? e = some i) (hz : i.zero = some z)
    (hsize : i.size = 1) (hby : i.bytes ≤ 100) (hzc : z.cells = #[z]) (v : Value) (xs : List Value) (hs : a.eval s = v) (hO : Zr e z base v xs wr) (hbase : base ≤ wr.heap.size) (hlen : xs.length ≤ 1000000)
    (g' c : Nat) (u : Value) (hx : a.eval x = .slice (some ⟨g', 0, none⟩) 1 c) (hu : wr.cell? ⟨g', 0, none⟩ = some u) (h1 : u.oneCell' = true) (hx8 : ∀ y ∈ xs, ∀ k, y ≠ .int .u8 k) (hz8 : ∀ k, z ≠ .int .u8 k)
    (h : ∀ v' w', Zr e z base v' (xs ++ [u]) w' → Chg (fun b => some b = v.ownBlock) wr w' → K8 wr w' → (v'.ownBlock = v.ownBlock ∨ ∀ b, v'.ownBlock = some b → wr.heap.size ≤ b) → K (a.put o.dst v') w') : o.wp P a wr K Q := by
  have hnews : ∀ j y, [u][j]? = some y → wr.cell? ((⟨g', 0, none⟩ : Addr).add j) = some y := by
    intro j y hj
    match j with
    | 0 => simp at hj; subst hj; simpa [Addr.add] using hu
    | j + 1 => simp at hj
  have hone : ∀ y ∈ [u], y.oneCell' = true := by simpa using h1
  have key : ∀ (v' : Value) (w' : World), (Builtin.append_ #[t, t] o.type #[v, .slice (some ⟨g', 0, none⟩) 1 c]).run P wr = .ok v' w' → (Zr e z base v' (xs ++ [u]) w' ∧ Chg (fun b => some b = v.ownBlock) wr w' ∧ (v'.ownBlock = v.ownBlock ∨ ∀ b, v'.ownBlock = some b → wr.heap.size ≤ b)) → o.wp P a wr K Q := by
    intro v' w' hr hq
    unfold Oper.wp execOp
    simp only [ho, resolve, invoke, builtin, Sem.run_bind, Sem.run_pure, Result.andThen_ok, List.map_toArray, List.map_cons, List.map_nil, hs, hx, hr]
    exact h v' w' hq.1 hq.2.1 (K8.of_chg hq.2.1 fun b hb => hO.no8 hx8 hz8 b hb) hq.2.2
  have hnew : ∀ (old n cap : Nat), xs.length + 1 = n → n ≤ cap → cap ≤ maxLen → Zr e z base (.slice (some ⟨wr.heap.size, 0, none⟩) n cap) (xs ++ [u]) (wr.drew.alloc (.cells (xs.toArray ++ [u].toArray ++ Builtin.zeroCells z.cells (cap - n)) e)) ∧ Chg (fun b => some b = v.ownBlock) wr (wr.drew.alloc (.cells (xs.toArray ++ [u].toArray ++ Builtin.zeroCells z.cells (cap - n)) e)) := by
    intro old n cap hn hc hm
    subst hn
    refine ⟨.inr ⟨wr.heap.size, cap, by simp, hbase, by simpa using hc, hm, ?_⟩, Chg.of_below (stepB (Below.refl _ wr).drew (growB _))⟩
    have hcs : (xs.toArray ++ [u].toArray ++ Builtin.zeroCells z.cells (cap - (xs.length + 1))) = ((xs ++ [u]) ++ List.replicate (cap - (xs ++ [u]).length) z).toArray := by
      rw [zeroC hzc]
      simp
    rw [hcs]
    exact heap_alloc_new wr.drew _
  rcases id hO with ⟨rfl, rfl⟩ | ⟨g, cap, rfl, hbg, hlc, hcm, hB⟩
  · have hr := run_append_nil (P := P) wr t o.type e i z ht hi hz ⟨g', 0, none⟩ 1 c [u] (by rw [hsize]; rfl) hnews (by omega) (by omega) (by omega)
    have hge := grownCap_ge wr 1 0 e
    have hn := hnew 0 1 (grownCap wr 1 0 e) rfl hge (grownCap_le_maxLen wr 1 0 e (by simp [maxLen]))
    have e1 : (([] : List Value).toArray ++ [u].toArray ++ Builtin.zeroCells z.cells (grownCap wr 1 0 e - 1)) = [u].toArray ++ Builtin.zeroCells z.cells (grownCap wr 1 0 e - 1) := by simp
    rw [e1] at hn
    exact key _ _ hr ⟨hn.1, hn.2, .inr fun b hb => by simp [Value.ownBlock] at hb; omega⟩
  · by_cases hroom : xs.length + 1 ≤ cap
    · have hg : wr.heap[g]? = some (.cells (xs ++ List.replicate (cap - xs.length) z).toArray e (0, 0)) := hB
      have hr := run_append_room (P := P) wr t o.type e i ht hi g xs.length cap _ hg ⟨g', 0, none⟩ 1 c [u] (by rw [hsize]; rfl) hnews hone hroom (by rw [hsize]; simp; omega)
      refine key _ _ hr ⟨.inr ⟨g, cap, by simp, hbg, by simpa using hroom, hcm, ?_⟩, ⟨rfl, rfl, rfl, by simp [World.setRow], fun k _ hk => setRow_other wr g k _ (fun e => hk (by simp [Value.ownBlock, e]))⟩, .inl rfl⟩
      have e1 : (xs ++ List.replicate (cap - xs.length) z).toArray.toList.take (xs.length * i.size) ++ [u] ++ (xs ++ List.replicate (cap - xs.length) z).toArray.toList.drop (xs.length * i.size + [u].length) = (xs ++ [u]) ++ List.replicate (cap - (xs ++ [u]).length) z := by
        rw [hsize, Nat.mul_one]
        simp [List.drop_append]
        rw [List.drop_eq_nil_of_le (by omega), Nat.sub_sub, List.nil_append]
      rw [e1]
      exact setRow_heap wr g _ _ e _ hg
    · have holds : ∀ j y, xs[j]? = some y → wr.cell? ((⟨g, 0, none⟩ : Addr).add j) = some y := by
        intro j y hj
        have hjl : j < xs.length := by
          rcases Nat.lt_or_ge j xs.length with h | h
          · exact h
          · rw [List.getElem?_eq_none h] at hj; cases hj
        have : (⟨g, 0, none⟩ : Addr).add j = ⟨g, j, none⟩ := by unfold Addr.add; split <;> simp_all
        rw [this, hB.cell, List.getElem?_append_left hjl]
        exact hj
      have hr := run_append_grow (P := P) wr t o.type e i z ht hi hz ⟨g, 0, none⟩ xs.length cap xs (by rw [hsize, Nat.mul_one]) holds ⟨g', 0, none⟩ 1 c [u] (by rw [hsize]; rfl) hnews (by omega) (by omega) (growslice_fits (by omega) (by
        have := Nat.mul_le_mul (show xs.length + 1 ≤ 1000001 by omega) hby
        omega))
      have hge := grownCap_ge wr (xs.length + 1) cap e
      have hn := hnew cap (xs.length + 1) (grownCap wr (xs.length + 1) cap e) rfl hge (grownCap_le_maxLen wr (xs.length + 1) cap e (by simp [maxLen]; omega))
      exact key _ _ hr ⟨hn.1, hn.2, .inr fun b hb => by simp [Value.ownBlock] at hb; omega⟩
theorem wpList_append_Z {P : Program} {base : Nat} {wr : World} {ops : Array Oper} {rest : List Oper} {o : Oper} {a : Act} {Q : Exit → Act → World → Prop} (hgd : o.guard = none) (s x : Operand) (t : TypeId)
    (ho : o.op = .call { callee := .builtin .append, args := #[s, x], argTypes := #[t, t] }) (e : TypeId) (i : TypeInfo) (z : Value) (ht : P.underlying t = some (.slice e)) (hi : P.info? e = some i) (hz : i.zero = some z)
    (hsize : i.size = 1) (hby : i.bytes ≤ 100) (hzc : z.cells = #[z]) (v : Value) (xs : List Value) (hs : a.eval s = v) (hO : Zr e z base v xs wr) (hbase : base ≤ wr.heap.size) (hlen : xs.length ≤ 1000000)
    (g' c : Nat) (u : Value) (hx : a.eval x = .slice (some ⟨g', 0, none⟩) 1 c) (hu : wr.cell? ⟨g', 0, none⟩ = some u) (h1 : u.oneCell' = true) (hx8 : ∀ y ∈ xs, ∀ k, y ≠ .int .u8 k) (hz8 : ∀ k, z ≠ .int .u8 k)
    (h : ∀ v' w', Zr e z base v' (xs ++ [u]) w' → Chg (fun b => some b = v.ownBlock) wr w' → K8 wr w' → (v'.ownBlock = v.ownBlock ∨ ∀ b, v'.ownBlock = some b → wr.heap.size ≤ b) → wpList P ops Q rest (a.put o.dst v') w') : wpList P ops Q (o :: rest) a wr :=
  wpList_plain hgd fun _ hK => wp_append_Z s x t ho e i z ht hi hz hsize hby hzc v xs hs hO hbase hlen g' c u hx hu h1 hx8 hz8 fun v' w' a1 a2 a3 a4 => hK _ _ (h v' w' a1 a2 a3 a4)
end Go.Proofs.YtliiofjcghdjoaaDoor

/- Numbers one behind the other, and numbers near to one another: plain mathematics. No program's text is named. -/
namespace Go.Proofs.YtliiofjcghdjoaaDoor
set_option linter.unusedSimpArgs false
set_option linter.unusedVariables false

/-- So many numbers, one behind the other. -/
def rwN (b i : Nat) : List Nat := (List.range i).map (b + ·)
theorem rwN_succ (b i : Nat) : rwN b (i + 1) = rwN b i ++ [b + i] := by
  unfold rwN
  rw [List.range_succ, List.map_append]
  rfl
theorem rwN_mem {b i x : Nat} : x ∈ rwN b i ↔ b ≤ x ∧ x < b + i := by
  unfold rwN
  simp only [List.mem_map, List.mem_range]
  constructor
  · rintro ⟨j, h1, rfl⟩
    omega
  · rintro ⟨h1, h2⟩
    exact ⟨x - b, by omega, by omega⟩
theorem rwN_top (b : Nat) : ∀ i, tpN (rwN b (i + 1)) = b + i
  | 0 => by rw [rwN_succ, tpN_snoc]; simp [rwN, tpN]
  | i + 1 => by rw [rwN_succ, tpN_snoc, rwN_top b i]; omega
theorem rwN_cm (b : Nat) : ∀ i, cmE (rwN b i) (b + i) = 0
  | 0 => cm_none _
  | i + 1 => cm_above (by rw [rwN_top]; omega)
theorem mk_ok {l : List Nat} {n : Nat} (h : cmE l n = 0) : mkL l n = (l ++ [n], 0) := by
  unfold mkL
  rw [if_pos h]
theorem rwN_mk (b i : Nat) : mkL (rwN b i) (b + i) = (rwN b (i + 1), 0) := by rw [mk_ok (rwN_cm b i), rwN_succ]
theorem cm_in {l : List Nat} {n : Nat} (h : n ∈ l) : cmE l n = 43 := by unfold cmE; rw [if_pos h]
theorem rwN_again (b i : Nat) : cmE (rwN b (i + 1)) (b + i) = 43 := cm_in (rwN_mem.2 ⟨by omega, by omega⟩)
theorem rwN_step (b k s : Nat) : mkL (rwN b (k + 1)) (b + k + 1 + s) = (rwN b (k + 1) ++ [b + k + 1 + s], 0) := mk_ok (cm_above (by rw [rwN_top]; omega))
theorem rwN_gap (b k s i : Nat) (h : i < s) : cmE (rwN b (k + 1) ++ [b + k + 1 + s]) (b + k + 1 + i) = if 128 ≤ s - i then 43 else 0 := by
  have ht : tpN (rwN b (k + 1) ++ [b + k + 1 + s]) = b + k + 1 + s := by rw [tpN_snoc, rwN_top]; omega
  unfold cmE
  rw [ht, if_neg (by
    intro hm
    rcases List.mem_append.1 hm with h1 | h1
    · have := (rwN_mem.1 h1).2
      omega
    · have := List.mem_singleton.1 h1
      omega)]
  by_cases h2 : 128 ≤ s - i
  · rw [if_pos h2, if_pos ⟨by omega, by omega⟩]
  · rw [if_neg h2, if_neg (by omega)]
theorem rwN_first (b k s : Nat) : cmE (rwN b (k + 1) ++ [b + k + 1 + s]) b = 43 := cm_in (List.mem_append_left _ (rwN_mem.2 ⟨by omega, by omega⟩))
end Go.Proofs.YtliiofjcghdjoaaDoor

/- Numbers near to one another, in any order, and which of them were seen: plain mathematics. No program's text is named. -/
namespace Go.Proofs.YtliiofjcghdjoaaDoor
set_option linter.unusedSimpArgs false
set_option linter.unusedVariables false

/-- The numbers that came are the first so many ones. -/
def NrL (B : Nat) (xs : Nat → Nat) (i : Nat) (l : List Nat) : Prop := ∀ x, x ∈ l ↔ ∃ m, m < i ∧ x = B + xs m
/-- .. the last so many ones of n. -/
def NrD (B : Nat) (xs : Nat → Nat) (n i : Nat) (l : List Nat) : Prop := ∀ x, x ∈ l ↔ ∃ m, n ≤ m + i ∧ m < n ∧ x = B + xs m
theorem mk_near {l : List Nat} {n B : Nat} (hl : ∀ x ∈ l, B ≤ x ∧ x < B + 128) (hn : B ≤ n) : mkL l n = (if n ∈ l then l else l ++ [n], if n ∈ l then 43 else 0) := by
  unfold mkL
  rw [cm_near hl hn]
  by_cases h : n ∈ l
  · rw [if_pos h, if_pos h, if_neg (by decide)]
  · rw [if_neg h, if_neg h, if_pos rfl]
theorem mk_in {l : List Nat} {n B : Nat} (hl : ∀ x ∈ l, B ≤ x ∧ x < B + 128) (hn : B ≤ n) (x : Nat) : x ∈ (mkL l n).1 ↔ x ∈ l ∨ x = n := by
  rw [mk_near hl hn]
  by_cases h : n ∈ l
  · rw [if_pos h]
    exact ⟨.inl, fun h1 => h1.elim id fun e => e ▸ h⟩
  · rw [if_neg h]
    simp
theorem NrL.start (B : Nat) (xs : Nat → Nat) : NrL B xs 0 [] := fun x => by simp
theorem NrL.near {B : Nat} {xs : Nat → Nat} (hx : ∀ m, xs m < 128) {i : Nat} {l : List Nat} (h : NrL B xs i l) : ∀ x ∈ l, B ≤ x ∧ x < B + 128 := by
  intro x hm
  obtain ⟨m, -, rfl⟩ := (h x).1 hm
  have := hx m
  omega
theorem NrL.step {B : Nat} {xs : Nat → Nat} (hx : ∀ m, xs m < 128) {i : Nat} {l : List Nat} (h : NrL B xs i l) : NrL B xs (i + 1) (mkL l (B + xs i)).1 := by
  intro x
  rw [mk_in (h.near hx) (by omega), h x]
  constructor
  · rintro (⟨m, h1, h2⟩ | h1)
    · exact ⟨m, by omega, h2⟩
    · exact ⟨i, by omega, h1⟩
  · rintro ⟨m, h1, h2⟩
    by_cases hm : m = i
    · subst hm
      exact .inr h2
    · exact .inl ⟨m, by omega, h2⟩
theorem NrD.start (B : Nat) (xs : Nat → Nat) (n : Nat) : NrD B xs n 0 [] := fun x => by
  simp
  intro m h1 h2
  omega
theorem NrD.near {B : Nat} {xs : Nat → Nat} (hx : ∀ m, xs m < 128) {n i : Nat} {l : List Nat} (h : NrD B xs n i l) : ∀ x ∈ l, B ≤ x ∧ x < B + 128 := by
  intro x hm
  obtain ⟨m, -, -, rfl⟩ := (h x).1 hm
  have := hx m
  omega
theorem NrD.step {B : Nat} {xs : Nat → Nat} (hx : ∀ m, xs m < 128) {n i k : Nat} {l : List Nat} (h : NrD B xs n i l) (hk : n = k + i + 1) : NrD B xs n (i + 1) (mkL l (B + xs k)).1 := by
  intro x
  rw [mk_in (h.near hx) (by omega), h x]
  constructor
  · rintro (⟨m, h1, h2, h3⟩ | h1)
    · exact ⟨m, by omega, h2, h3⟩
    · exact ⟨k, by omega, by omega, h1⟩
  · rintro ⟨m, h1, h2, h3⟩
    by_cases hm : m = k
    · subst hm
      exact .inr h3
    · exact .inl ⟨m, by omega, h2, h3⟩
theorem nr_same {B : Nat} {xs : Nat → Nat} {n : Nat} {l m : List Nat} (h : NrL B xs n l) (h2 : NrD B xs n n m) : ∀ x, x ∈ l ↔ x ∈ m := by
  intro x
  rw [h x, h2 x]
  constructor
  · rintro ⟨k, h3, h4⟩
    exact ⟨k, by omega, h3, h4⟩
  · rintro ⟨k, -, h3, h4⟩
    exact ⟨k, h3, h4⟩
theorem some_congr {l m : List Nat} (h : ∀ x, x ∈ l ↔ x ∈ m) : decide (0 < l.length) = decide (0 < m.length) := by
  refine decide_eq_decide.2 ⟨fun h1 => ?_, fun h1 => ?_⟩
  · exact List.length_pos_of_mem ((h _).1 (tpN_mem (List.length_pos_iff.1 h1)))
  · exact List.length_pos_of_mem ((h _).2 (tpN_mem (List.length_pos_iff.1 h1)))
/-- Which of n were seen. -/
def snB (n B : Nat) (l : List Nat) : List Bool := (List.range n).map fun k => decide (B + k ∈ l)
theorem snB_length (n B : Nat) (l : List Nat) : (snB n B l).length = n := by simp [snB]
theorem snB_at (n B : Nat) (l : List Nat) {i : Nat} (h : i < (snB n B l).length) : (snB n B l)[i] = decide (B + i ∈ l) := by simp [snB]
theorem snB_none (n B : Nat) : snB n B [] = List.replicate n false := by
  refine List.ext_getElem (by simp [snB]) fun i h1 h2 => ?_
  rw [snB_at]
  simp
theorem snB_get (n B : Nat) (l : List Nat) {k : Nat} (h : k < n) : (snB n B l)[k]? = some (decide (B + k ∈ l)) := by
  rw [List.getElem?_eq_getElem (by rw [snB_length]; exact h), snB_at]
theorem snB_set (n : Nat) {B : Nat} {l : List Nat} (hl : ∀ x ∈ l, B ≤ x ∧ x < B + 128) (k : Nat) : (snB n B l).set k true = snB n B (mkL l (B + k)).1 := by
  refine List.ext_getElem (by rw [List.length_set, snB_length, snB_length]) fun i h1 h2 => ?_
  rw [List.getElem_set]
  by_cases hk : k = i
  · subst hk
    rw [if_pos rfl, snB_at]
    exact (decide_eq_true ((mk_in hl (Nat.le_add_right B k) _).2 (.inr rfl))).symm
  · rw [if_neg hk, snB_at, snB_at]
    refine decide_eq_decide.2 ?_
    rw [mk_in hl (Nat.le_add_right B k)]
    exact ⟨.inl, fun h => h.elim id fun h => absurd (by omega : k = i) hk⟩
end Go.Proofs.YtliiofjcghdjoaaDoor

/- What a session of numbers from 0 on seals, and its like opens: plain mathematics. No program's text is named. -/
namespace Go.Proofs.YtliiofjcghdjoaaDoor
set_option linter.unusedSimpArgs false
set_option linter.unusedVariables false

/-- One byte, sealed with a number. -/
def bxL (key : List UInt8) (k : Nat) (c : UInt8) : List UInt8 := (seC ⟨key, k⟩ [] [c]).2.1
theorem bx_seC {key : List UInt8} (hk : key.length = 32) {k : Nat} (hn : k ≠ 18446744073709551615) (c : UInt8) : seC ⟨key, k⟩ [] [c] = (⟨key, k + 1⟩, bxL key k c, 0) := by
  unfold bxL seC
  rw [if_neg (by show ¬ key.length = 0; omega), if_neg (by show ¬ key.length ≠ 32; omega), if_neg hn]
theorem bx_len {key : List UInt8} (hk : key.length = 32) {k : Nat} (hn : k ≠ 18446744073709551615) (c : UInt8) : (bxL key k c).length = 17 := by
  unfold bxL seC
  rw [if_neg (by show ¬ key.length = 0; omega), if_neg (by show ¬ key.length ≠ 32; omega), if_neg hn]
  show (seL _ _ _ _).length = _
  rw [seL_len]
  rfl
/-- The one that seals, the one that opens. -/
def saS (key : List UInt8) (m : Nat) : Ses := ⟨⟨key, m⟩, ⟨key, 0⟩, 0, m, []⟩
def sbS (key : List UInt8) (came : List Nat) : Ses := ⟨⟨key, 0⟩, ⟨key, 0⟩, 0, 0, came⟩
theorem sn_zero (t : Nat) : snN 0 t = t := by unfold snN; rw [if_neg (by omega)]; rfl
theorem sa_no {r : Rl} {key : List UInt8} {m t : Nat} (c : UInt8) (h : ¬ (t < r.expire ∧ m < r.ecount)) : ssS r (saS key m) [c] t = (saS key m, 0, [], 52) := by
  have hx : exB r (saS key m) t = true := by
    unfold exB saS
    rw [sn_zero]
    simp
    omega
  unfold ssS
  rw [if_pos hx]
theorem sa_ok {r : Rl} {key : List UInt8} (hk : key.length = 32) {m t : Nat} (hm : m < 1000) (c : UInt8) (h : t < r.expire ∧ m < r.ecount) : ssS r (saS key m) [c] t = (saS key (m + 1), m, bxL key m c, 0) := by
  have hx : ¬ exB r (saS key m) t = true := by
    unfold exB saS
    rw [sn_zero]
    simp
    omega
  have hs : seC (saS key m).snd [] [c] = (⟨key, m + 1⟩, bxL key m c, 0) := bx_seC hk (by omega) c
  unfold ssS
  rw [if_neg hx, hs, if_neg (by simp)]
  rfl
theorem sb_open {r : Rl} {key : List UInt8} (hk : key.length = 32) {k : Nat} {came : List Nat} (hc : ∀ x ∈ came, x < 128) (hk2 : k < 128) (c : UInt8) (h : 0 < r.expire) :
    ssO r (sbS key came) k (bxL key k c) 0 = if k ∈ came then (sbS key came, [], 43) else (sbS key (came ++ [k]), [c], 0) := by
  have hl : ∀ x ∈ came, 0 ≤ x ∧ x < 0 + 128 := fun x hx => ⟨Nat.zero_le _, by have := hc x hx; omega⟩
  have h1 : ¬ r.expire ≤ snN (sbS key came).born 0 := by
    show ¬ r.expire ≤ snN 0 0
    rw [sn_zero]
    omega
  have h2 : cmE (sbS key came).came k = if k ∈ came then 43 else 0 := cm_near (B := 0) hl (Nat.zero_le _)
  have h3 : (opC ⟨(sbS key came).rcv.key, k⟩ [] (bxL key k c)).2 = ([c], 0) := opC_seC ⟨key, k⟩ [c] (by rw [bx_seC hk (by omega) c])
  have h4 : mkL came k = (if k ∈ came then came else came ++ [k], if k ∈ came then 43 else 0) := mk_near (B := 0) hl (Nat.zero_le _)
  unfold ssO
  rw [if_neg h1, h2]
  by_cases hm : k ∈ came
  · rw [if_pos hm, if_pos hm, if_pos (by decide)]
  · rw [if_neg hm, if_neg hm, if_neg (by decide), h3, if_neg (by simp)]
    show (Ses.mk _ _ _ _ (mkL came k).1, _, _) = _
    rw [h4, if_neg hm]
    rfl
end Go.Proofs.YtliiofjcghdjoaaDoor

/- What stands behind the law of bounds while it runs. -/
namespace Go.Proofs.YtliiofjcghdjoaaDoor
open Go.ChangeShapes Go.WideShapes Go.ChangeAt Go.RowKit
set_option linter.unusedSimpArgs false
set_option linter.unusedVariables false

theorem SnP.blk {g : Nat} {r : Rl} {s : Ses} {w : World} (h : SnP g r s w) : ∃ cs, BlkAt g 80 cs w ∧ No8 cs := by
  obtain ⟨a1, c1, a2, c2, a, b, h1, h2, h3, h4, h5⟩ := h.mem
  exact ⟨_, h3, snC_no8 _ _ _ _ _ _ _ _ _ _ _ _ _⟩
theorem SnP.k8 {g : Nat} {r : Rl} {s : Ses} {w w' : World} (h : SnP g r s w) (c : Chg (fun b => b = g) w w') : K8 w w' := by
  obtain ⟨cs, h1, h2⟩ := h.blk
  exact K8.blk h1 h2 c
/-- Something else is written. -/
theorem SnP.other {S : Nat → Prop} {g : Nat} {r : Rl} {s : Ses} {w w' : World} (h : SnP g r s w) (c : Chg S w w') (hS : ¬ S g) (k : K8 w w') : SnP g r s w' := by
  obtain ⟨a1, c1, a2, c2, a, b, h1, h2, h3, h4, h5⟩ := h.mem
  exact ⟨h.ok, a1, c1, a2, c2, a, b, h1, h2, h3.chg c hS, h4.k8 k, h5.k8 k⟩
theorem Zr.ses {e : TypeId} (he : e ≠ 80) {z : Value} {base : Nat} {v : Value} {xs : List Value} {g : Nat} {r : Rl} {s : Ses} {w w' : World} (h : Zr e z base v xs w) (hs : SnP g r s w) (c : Chg (fun b => b = g) w w') : Zr e z base v xs w' := by
  obtain ⟨cs, h1, -⟩ := hs.blk
  exact h.chg c fun b hb e1 => h.ne h1 he b hb e1
theorem SnP.row {g : Nat} {r : Rl} {s : Ses} {e : TypeId} (he : e ≠ 80) {z : Value} {base : Nat} {v : Value} {xs : List Value} {w w' : World} (hs : SnP g r s w) (h : Zr e z base v xs w) (c : Chg (fun b => some b = v.ownBlock) w w') (k : K8 w w') : SnP g r s w' := by
  obtain ⟨cs, h1, -⟩ := hs.blk
  exact hs.other c (fun e1 => h.ne h1 he g e1.symm rfl) k
/-- The first so many numbers as cells. -/
def nV (m : Nat) : List Value := (List.range m).map fun k => Value.int .u64 ((k : Nat) : Int)
theorem nV_length (m : Nat) : (nV m).length = m := by simp [nV]
theorem nV_succ (m : Nat) : nV (m + 1) = nV m ++ [.int .u64 (m : Int)] := by simp [nV, List.range_succ]
theorem nV_getD {m k : Nat} (h : k < m) : (nV m).getD k undef = .int .u64 (k : Int) := by simp [nV, h]
theorem nV_8 (m : Nat) : ∀ y ∈ nV m, ∀ k, y ≠ .int .u8 k := by
  intro y hy k e
  obtain ⟨j, -, rfl⟩ := List.mem_map.1 hy
  cases e

structure Bd22 (w0 : World) (gr ga gb : Nat) (r : Rl) (key : List UInt8) (ms mn : Nat) (cs : List UInt8) (vn vb : Value) (bs : List Value) (came : List Nat) (w : World) : Prop where
  rul : BlkAt gr 24 (rlC r) w
  sa : SnP ga r (saS key ms) w
  sb : SnP gb r (sbS key came) w
  num : Zr 22 (.int .u64 0) w0.heap.size vn (nV mn) w
  box : Zr 40 (.slice none 0 0) w0.heap.size vb bs w
  len : bs.length = cs.length
  row : ∀ k, k < cs.length → ∃ a c, bs.getD k undef = .slice a 17 c ∧ Rd w (.slice a 17 c) (bxL key k (cs.getD k 0))
  form : ∀ y ∈ bs, ∀ k, y ≠ .int .u8 k
  below : Below w0.heap.size w0 w
  ne : ga ≠ gb ∧ w0.heap.size ≤ ga ∧ w0.heap.size ≤ gb
theorem Bd22.kept {w0 w w' : World} {gr ga gb : Nat} {r : Rl} {key : List UInt8} {ms mn : Nat} {cs : List UInt8} {vn vb : Value} {bs : List Value} {came : List Nat} (h : Bd22 w0 gr ga gb r key ms mn cs vn vb bs came w) (hb : Below w.heap.size w w') : Bd22 w0 gr ga gb r key ms mn cs vn vb bs came w' :=
  ⟨h.rul.kept hb, h.sa.kept hb, h.sb.kept hb, h.num.kept hb, h.box.kept hb, h.len, fun k hk => by obtain ⟨a, c, h1, h2⟩ := h.row k hk; exact ⟨a, c, h1, h2.kept hb⟩, h.form, stepB h.below hb, h.ne⟩
/-- The one that seals has changed. -/
theorem Bd22.seal {w0 w w' : World} {gr ga gb : Nat} {r : Rl} {key : List UInt8} {ms mn : Nat} {cs : List UInt8} {vn vb : Value} {bs : List Value} {came : List Nat} (h : Bd22 w0 gr ga gb r key ms mn cs vn vb bs came w) (c : Chg (fun b => b = ga) w w') :
    BlkAt gr 24 (rlC r) w' ∧ SnP gb r (sbS key came) w' ∧ Zr 22 (.int .u64 0) w0.heap.size vn (nV mn) w' ∧ Zr 40 (.slice none 0 0) w0.heap.size vb bs w' ∧ (∀ k, k < cs.length → ∃ a c, bs.getD k undef = .slice a 17 c ∧ Rd w' (.slice a 17 c) (bxL key k (cs.getD k 0))) ∧ Below w0.heap.size w0 w' := by
  have k8 := h.sa.k8 c
  obtain ⟨ca, hca, -⟩ := h.sa.blk
  have hra : gr ≠ ga := by
    rintro rfl
    have h1 := h.rul
    unfold BlkAt at h1 hca
    rw [h1] at hca
    simp at hca
  exact ⟨h.rul.chg c hra, h.sb.other c (fun e => h.ne.1 e.symm) k8, h.num.ses (by decide) h.sa c, h.box.ses (by decide) h.sa c, fun k hk => by obtain ⟨a, c, h1, h2⟩ := h.row k hk; exact ⟨a, c, h1, h2.k8 k8⟩, Chg.gone h.below c h.below.size h.ne.2.1⟩
theorem Bd22.seal0 {w0 w w' : World} {gr ga gb : Nat} {r : Rl} {key : List UInt8} {ms mn : Nat} {cs : List UInt8} {vn vb : Value} {bs : List Value} {came : List Nat} (h : Bd22 w0 gr ga gb r key ms mn cs vn vb bs came w) (c : Chg (fun b => b = ga) w w') {ms' : Nat} (hs : SnP ga r (saS key ms') w') : Bd22 w0 gr ga gb r key ms' mn cs vn vb bs came w' := by
  obtain ⟨h1, h2, h3, h4, h5, h6⟩ := h.seal c
  exact ⟨h1, hs, h2, h3, h4, h.len, h5, h.form, h6, h.ne⟩
/-- The one that opens has changed. -/
theorem Bd22.open {w0 w w' : World} {gr ga gb : Nat} {r : Rl} {key : List UInt8} {ms mn : Nat} {cs : List UInt8} {vn vb : Value} {bs : List Value} {came came' : List Nat} (h : Bd22 w0 gr ga gb r key ms mn cs vn vb bs came w) (c : Chg (fun b => b = gb) w w') (hs : SnP gb r (sbS key came') w') : Bd22 w0 gr ga gb r key ms mn cs vn vb bs came' w' := by
  have k8 := h.sb.k8 c
  obtain ⟨cb, hcb, -⟩ := h.sb.blk
  have hrb : gr ≠ gb := by
    rintro rfl
    have h1 := h.rul
    unfold BlkAt at h1 hcb
    rw [h1] at hcb
    simp at hcb
  exact ⟨h.rul.chg c hrb, h.sa.other c h.ne.1 k8, hs, h.num.ses (by decide) h.sb c, h.box.ses (by decide) h.sb c, h.len, fun k hk => by obtain ⟨a, c, h1, h2⟩ := h.row k hk; exact ⟨a, c, h1, h2.k8 k8⟩, h.form, Chg.gone h.below c h.below.size h.ne.2.2, h.ne⟩
/-- A block of another kind, newer, is written. -/
theorem Bd22.past {w0 w w' : World} {gr ga gb : Nat} {r : Rl} {key : List UInt8} {ms mn : Nat} {cs : List UInt8} {vn vb : Value} {bs : List Value} {came : List Nat} (h : Bd22 w0 gr ga gb r key ms mn cs vn vb bs came w) {g : Nat} {ty : TypeId} {ls : List Value} (hb : BlkAt g ty ls w) (hn : No8 ls) (c : Chg (fun b => b = g) w w') (hg : w0.heap.size ≤ g)
    (t1 : 24 ≠ ty) (t2 : 80 ≠ ty) (t3 : 22 ≠ ty) (t4 : 40 ≠ ty) : Bd22 w0 gr ga gb r key ms mn cs vn vb bs came w' := by
  have k8 := K8.blk hb hn c
  have hne : ∀ {k : Nat} {t : TypeId} {qs : List Value}, BlkAt k t qs w → t ≠ ty → ¬ k = g := by
    intro k t qs h1 h2 e
    subst e
    unfold BlkAt at h1 hb
    rw [h1] at hb
    simp at hb
    exact h2 hb.2
  obtain ⟨ca, hca, -⟩ := h.sa.blk
  obtain ⟨cb, hcb, -⟩ := h.sb.blk
  exact ⟨h.rul.chg c (hne h.rul t1), h.sa.other c (hne hca t2) k8, h.sb.other c (hne hcb t2) k8, h.num.chg c (fun b hb' e => h.num.ne hb t3 b hb' e), h.box.chg c (fun b hb' e => h.box.ne hb t4 b hb' e), h.len, fun k hk => by obtain ⟨a, c, h1, h2⟩ := h.row k hk; exact ⟨a, c, h1, h2.k8 k8⟩, h.form, Chg.gone h.below c h.below.size hg, h.ne⟩
theorem row_ne {e ty : TypeId} {z : Value} {base : Nat} {v : Value} {xs ls : List Value} {g : Nat} {w : World} (h : Zr e z base v xs w) (hb : BlkAt g ty ls w) (hne : e ≠ ty) : ¬ some g = v.ownBlock := fun e1 => h.ne hb hne g e1.symm rfl
/-- A number more. -/
theorem Bd22.numb {w0 w w' : World} {gr ga gb : Nat} {r : Rl} {key : List UInt8} {ms mn : Nat} {cs : List UInt8} {vn vb vn' : Value} {bs : List Value} {came : List Nat} (h : Bd22 w0 gr ga gb r key ms mn cs vn vb bs came w)
    (hz : Zr 22 (.int .u64 0) w0.heap.size vn' (nV mn ++ [.int .u64 (mn : Int)]) w') (c : Chg (fun b => some b = vn.ownBlock) w w') (k8 : K8 w w') : Bd22 w0 gr ga gb r key ms (mn + 1) cs vn' vb bs came w' :=
  ⟨h.rul.chg c (row_ne h.num h.rul (by decide)), h.sa.row (by decide) h.num c k8, h.sb.row (by decide) h.num c k8, by rw [nV_succ]; exact hz, h.box.chg c (fun b hb e => h.box.ne2 h.num (by decide) b hb e.symm), h.len, fun k hk => by obtain ⟨a, c, h1, h2⟩ := h.row k hk; exact ⟨a, c, h1, h2.k8 k8⟩, h.form, c.below h.below h.below.size (fun k _ hk => (h.num.lt k hk.symm).1), h.ne⟩
/-- .. and a box. -/
theorem Bd22.boxd {w0 w w' : World} {gr ga gb : Nat} {r : Rl} {key : List UInt8} {ms mn : Nat} {cs : List UInt8} {vn vb vb' : Value} {bs : List Value} {came : List Nat} (h : Bd22 w0 gr ga gb r key ms mn cs vn vb bs came w) (a : Option Addr) (k : Nat) (d : UInt8)
    (hz : Zr 40 (.slice none 0 0) w0.heap.size vb' (bs ++ [.slice a 17 k]) w') (c : Chg (fun b => some b = vb.ownBlock) w w') (k8 : K8 w w') (hr : Rd w (.slice a 17 k) (bxL key cs.length d)) : Bd22 w0 gr ga gb r key ms mn (cs ++ [d]) vn vb' (bs ++ [.slice a 17 k]) came w' := by
  refine ⟨h.rul.chg c (row_ne h.box h.rul (by decide)), h.sa.row (by decide) h.box c k8, h.sb.row (by decide) h.box c k8, h.num.chg c (fun b hb e => h.num.ne2 h.box (by decide) b hb e.symm), hz, by simp [h.len], fun j hj => ?_, fun y hy q e => ?_, c.below h.below h.below.size (fun k _ hk => (h.box.lt k hk.symm).1), h.ne⟩
  · have hj' : j < cs.length + 1 := by simpa using hj
    by_cases e : j = cs.length
    · subst e
      refine ⟨a, k, ?_, ?_⟩
      · rw [← h.len]; simp
      · have : (cs ++ [d]).getD cs.length 0 = d := by simp
        rw [this]
        exact hr.k8 k8
    · obtain ⟨a', c', h1, h2⟩ := h.row j (by omega)
      have e1 : (bs ++ [Value.slice a 17 k]).getD j undef = bs.getD j undef := by
        have := h.len
        simp only [List.getD_eq_getElem?_getD]
        rw [List.getElem?_append_left (by omega)]
      have e2 : (cs ++ [d]).getD j 0 = cs.getD j 0 := by
        simp only [List.getD_eq_getElem?_getD]
        rw [List.getElem?_append_left (by omega)]
      exact ⟨a', c', by rw [e1]; exact h1, by rw [e2]; exact h2.k8 k8⟩
  · rcases List.mem_append.1 hy with h1 | h1
    · exact h.form y h1 q e
    · rw [List.mem_singleton.1 h1] at e
      cases e
/-- Which were seen, as cells. -/
def snL (n : Nat) (l : List Nat) : List Value := (List.range n).map fun k => Value.bool (decide (k ∈ l))
theorem snL_get (n : Nat) (l : List Nat) {k : Nat} (h : k < n) : (snL n l)[k]? = some (.bool (decide (k ∈ l))) := by simp [snL, h]
theorem snL_no8 (n : Nat) (l : List Nat) : No8 (snL n l) := No8.of_slices (by
  intro v hv x e
  obtain ⟨j, -, rfl⟩ := List.mem_map.1 hv
  cases e)
theorem snL_set (n : Nat) (l l' : List Nat) {k : Nat} (hk : k ∈ l') (h : ∀ j, j ≠ k → (j ∈ l' ↔ j ∈ l)) : (snL n l).set k (.bool true) = snL n l' := by
  refine List.ext_getElem (by simp [snL]) fun i h1 h2 => ?_
  simp only [snL, List.getElem_set, List.getElem_map, List.getElem_range]
  by_cases e : k = i
  · subst e; simp [hk]
  · rw [if_neg e]
    have := h i (fun e1 => e e1.symm)
    simp [this]
end Go.Proofs.YtliiofjcghdjoaaDoor
