/- A packet's bytes, and those for which its code stands: contracts of package wire, second part. -/
import Derived.Test.YtonnngndknoljaaWr18a
import Derived.Test.YtonnngndknoljaaWrMath2
import Derived.Test.YtonnngndknoljaaWords
import Derived.Test.YtonnngndknoljaaReg
import Derived.OwnWalk
namespace Go.Proofs.Ytonnngndknoljaa
open Go.ChangeShapes Go.WideShapes Go.ChangeAt Go.RowKit
set_option linter.unusedSimpArgs false
set_option linter.unusedVariables false

/-- A packet's bytes ahead of its code and its body. -/
def hdL (p : Pkt) : List UInt8 :=
  if p.kind = 1 then [b8 1] ++ leB 4 p.fr ++ leB 4 p.tt ++ [b8 p.msg] ++ [b8 p.part] ++ [b8 p.parts] else if p.kind = 2 then [b8 2] ++ leB 4 p.tt else [b8 p.kind] ++ leB 4 p.tt ++ leB 8 p.ctr
theorem hdL_le (p : Pkt) : (hdL p).length ≤ 13 := by
  unfold hdL
  split
  · simp [leB]
  · split <;> simp [leB]
theorem hdL_put {p : Pkt} (h : mayB p = true) : hdL p ++ p.mac ++ p.body = putL p := by
  unfold hdL putL
  rcases may_of h with ⟨h1, h2⟩ | ⟨h1, h2, h3, -, h4⟩ | ⟨h1, h2, h3, h4, h5⟩ | ⟨h1, h2, h3, h4⟩
  · simp [h1]
  · simp [h1]
  · have := nil_of h3
    simp [h1, this]
  · have := nil_of h3
    simp [h1, this]
theorem hdL_sg {p : Pkt} (h : mayB p = true) (hk : p.kind = 1) : hdL p ++ p.body = sgL p := by
  unfold sgL
  rw [if_pos ⟨h, hk⟩, ← hdL_put h]
  have hl : (hdL p).length = 12 := by unfold hdL; simp [hk, leB]
  have hm : p.mac.length = 16 := by
    rcases may_of h with ⟨h1, h2⟩ | ⟨h1, h2, h3, -, h4⟩ | ⟨h1, h2, h3, h4, h5⟩ | ⟨h1, h2, h3, h4⟩
    · exact h2.2.2.2.2.2.2.1
    all_goals omega
  have e1 : (hdL p ++ p.mac ++ p.body).take 12 = hdL p := by rw [List.append_assoc, ← hl]; exact List.take_left
  have e2 : (hdL p ++ p.mac ++ p.body).drop 28 = p.body := by
    have : (hdL p ++ p.mac).length = 28 := by simp [hl, hm]
    rw [← this]
    exact List.drop_left
  rw [e1, e2]
theorem RdL.two18 {w : World} {e : TypeId} {v1 v2 : Value} {l1 l2 : List UInt8} {b : Nat} (hb : b = w.heap.size) (h1 : Rd w v1 l1) (h2 : Rd w v2 l2) : RdL (w.alloc (.cells #[v1, v2] e)) (.slice (some ⟨b, 0, none⟩) 2 2) [v1, v2] [l1, l2] := by
  subst hb
  refine RdL.lit [v1, v2] [l1, l2] rfl rfl rfl (by unfold maxLen; simp) rfl fun i hi => ?_
  match i, hi with
  | 0, _ => exact h1
  | 1, _ => exact h2
theorem RdL.three18 {w : World} {e : TypeId} {v1 v2 v3 : Value} {l1 l2 l3 : List UInt8} {b : Nat} (hb : b = w.heap.size) (h1 : Rd w v1 l1) (h2 : Rd w v2 l2) (h3 : Rd w v3 l3) : RdL (w.alloc (.cells #[v1, v2, v3] e)) (.slice (some ⟨b, 0, none⟩) 3 3) [v1, v2, v3] [l1, l2, l3] := by
  subst hb
  refine RdL.lit [v1, v2, v3] [l1, l2, l3] rfl rfl rfl (by unfold maxLen; simp) rfl fun i hi => ?_
  match i, hi with
  | 0, _ => exact h1
  | 1, _ => exact h2
  | 2, _ => exact h3
theorem RdL.six18 {w : World} {e : TypeId} {v1 v2 v3 v4 v5 v6 : Value} {l1 l2 l3 l4 l5 l6 : List UInt8} {b : Nat} (hb : b = w.heap.size) (h1 : Rd w v1 l1) (h2 : Rd w v2 l2) (h3 : Rd w v3 l3) (h4 : Rd w v4 l4) (h5 : Rd w v5 l5) (h6 : Rd w v6 l6) :
    RdL (w.alloc (.cells #[v1, v2, v3, v4, v5, v6] e)) (.slice (some ⟨b, 0, none⟩) 6 6) [v1, v2, v3, v4, v5, v6] [l1, l2, l3, l4, l5, l6] := by
  subst hb
  refine RdL.lit [v1, v2, v3, v4, v5, v6] [l1, l2, l3, l4, l5, l6] rfl rfl rfl (by unfold maxLen; simp) rfl fun i hi => ?_
  match i, hi with
  | 0, _ => exact h1
  | 1, _ => exact h2
  | 2, _ => exact h3
  | 3, _ => exact h4
  | 4, _ => exact h5
  | 5, _ => exact h6

theorem small_any (x : Int) (h0 : 0 ≤ x) (h1 : x < 256) (w : World) :
    Calls Try.prog 27 #[.int .i64 x] w fun e w' => ∃ v, e = .returned v ∧ New 5 w v [b8 x] w' := by
  obtain ⟨n, rfl⟩ := Int.eq_ofNat_of_zero_le h0
  have hq : IntKind.u64.wrap (n : Int) = (n : Int) := by rw [IntKind.wrap_u64]; omega
  have HE : Hid ((List.range 1).map (stB n) = [b8 (n : Int)]) := by
    show _ = _
    have : stB n 0 = b8 (n : Int) := by
      apply UInt8.toNat_inj.1
      have h := b8_toNat (n : Int)
      simp only [stB, Nat.pow_zero, Nat.div_one]
      rw [UInt8.toNat_ofNat']
      omega
    simp [List.range, List.range.loop, this]
  have HN : Hid (n < 18446744073709551616) := (by omega : n < 18446744073709551616)
  clear h0 h1
  go_enter Try.func27, Try.ntmps27
  go_wp2_with fail
  refine (store_k n 1 1 (by decide) (by omega) _).mono ?_
  rintro e w1 ⟨v1, rfl, hN1⟩
  rw [HE.out] at hN1
  go_wp2
  go_ret
  exact ⟨_, rfl, hN1⟩
theorem side_any (x : Nat) (hx : x < 4294967296) (w : World) :
    Calls Try.prog 28 #[.int .u32 (x : Int)] w fun e w' => ∃ v, e = .returned v ∧ New 5 w v (leB 4 x) w' := by
  have hq : IntKind.u64.wrap (x : Int) = (x : Int) := by rw [IntKind.wrap_u64]; omega
  clear hx
  go_enter Try.func28, Try.ntmps28
  go_wp2_with fail
  refine (store_k x 4 4 (by decide) (by omega) _).mono ?_
  rintro e w1 ⟨v1, rfl, hN1⟩
  go_wp2
  go_ret
  exact ⟨_, rfl, hN1⟩

set_option maxRecDepth 100000 in
set_option maxHeartbeats 8000000 in
theorem head_any (p : Pkt) (hw : PkW p) (hm : mayB p = true) (vm vb : Value) (A : Array Value) (hA : A = (pkC p vm vb).toArray) (w : World) :
    Calls Try.prog 19 #[.agg A] w fun e w' => ∃ v, e = .returned v ∧ New 5 w v (hdL p) w' := by
  have hk := may_of hm
  obtain ⟨kind, fr, tt, msg, part, parts, mac, ctr, body⟩ := p
  obtain ⟨-, wf, wt, -, -, -, wc⟩ := hw
  replace hk : (kind = 1 ∧ 0 ≤ msg ∧ msg ≤ 7 ∧ 1 ≤ parts ∧ parts ≤ 64 ∧ 0 ≤ part ∧ part < parts) ∨ kind = 2 ∨ kind = 3 ∨ kind = 4 := by
    rcases hk with ⟨h1, h2⟩ | ⟨h1, -⟩ | ⟨h1, -⟩ | ⟨h1, -⟩
    · exact .inl ⟨h1, h2.1, h2.2.1, h2.2.2.1, h2.2.2.2.1, h2.2.2.2.2.1, h2.2.2.2.2.2.1⟩
    · exact .inr (.inl h1)
    · exact .inr (.inr (.inl h1))
    · exact .inr (.inr (.inr h1))
  have HA : Hid (A = [.int .i64 kind, .int .u32 (fr : Int), .int .u32 (tt : Int), .int .i64 msg, .int .i64 part, .int .i64 parts, vm, .int .u64 (ctr : Int), vb].toArray) := hA
  have WF : Hid (fr < 4294967296) := wf
  have WT : Hid (tt < 4294967296) := wt
  have WC : Hid (ctr < 18446744073709551616) := wc
  have HK : Hid ((kind = 1 ∧ 0 ≤ msg ∧ msg ≤ 7 ∧ 1 ≤ parts ∧ parts ≤ 64 ∧ 0 ≤ part ∧ part < parts) ∨ kind = 2 ∨ kind = 3 ∨ kind = 4) := hk
  have HK4 : Hid (0 ≤ kind ∧ kind < 256) := (by omega : 0 ≤ kind ∧ kind < 256)
  obtain ⟨HD, hHD⟩ : ∃ H, H = hdL ⟨kind, fr, tt, msg, part, parts, mac, ctr, body⟩ := ⟨_, rfl⟩
  rw [← hHD]
  have HHD : Hid (HD = if kind = 1 then [b8 1] ++ leB 4 fr ++ leB 4 tt ++ [b8 msg] ++ [b8 part] ++ [b8 parts] else if kind = 2 then [b8 2] ++ leB 4 tt else [b8 kind] ++ leB 4 tt ++ leB 8 ctr) := hHD
  clear hHD
  clear hA wf wt wc hk hm
  go_enter Try.func19, Try.ntmps19
  go_wp2_with (refine wpList_box_blk rfl 26 _ rfl [.int .i64 kind, .int .u32 (fr : Int), .int .u32 (tt : Int), .int .i64 msg, .int .i64 part, .int .i64 parts, vm, .int .u64 (ctr : Int), vb] (by rw [← HA.out]; rfl) ?_)
  intro w1 r1 b1 s1
  obtain ⟨g, hg⟩ : ∃ n : Nat, n = w.heap.size := ⟨_, rfl⟩
  rw [← hg] at r1 ⊢
  have HB : Hid (Below w.heap.size w w1) := b1
  have R1 : Hid (BlkAt g 26 [.int .i64 kind, .int .u32 (fr : Int), .int .u32 (tt : Int), .int .i64 msg, .int .i64 part, .int .i64 parts, vm, .int .u64 (ctr : Int), vb] w1) := r1
  clear HA r1 b1 s1 hg
  go_wp2_with fail
  refine wpG_begin (by kernel_rfl) ?_
  refine gU_ 0 rfl ⟨_, by intro W hW; go_simp <;> with_reducible rfl, ?_⟩
  try simp only [Act.put, pA_, pB_, pC_]
  refine gU_ 1 rfl ⟨_, by intro W hW; have cW : W.cell? ⟨g, 0, none⟩ = some (.int .i64 kind) := (R1.out.drew.kept hW).cell 0; go_simp <;> with_reducible rfl, ?_⟩
  try simp only [Act.put, pA_, pB_, pC_]
  refine gU_ 3 rfl ⟨_, by intro W hW; go_simp <;> with_reducible rfl, ?_⟩
  try simp only [Act.put, pA_, pB_, pC_]
  refine gU_ 4 rfl ⟨_, by intro W hW; have cW : W.cell? ⟨g, 2, none⟩ = some (.int .u32 (tt : Int)) := (R1.out.drew.kept hW).cell 2; go_simp <;> with_reducible rfl, ?_⟩
  try simp only [Act.put, pA_, pB_, pC_]
  refine gD_ 2 fun K hK => ?_
  go_simp
  refine (small_any kind HK4.out.1 HK4.out.2 _).mono ?_
  rintro e wa ⟨va, rfl, hNa⟩
  obtain ⟨aa, ca, rfl, -⟩ := id hNa.rd
  refine hK.out _ _ hNa.2 ?_
  clear hK K
  try simp only [Act.put, pA_, pB_, pC_]
  refine gD_ 5 fun K hK => ?_
  go_simp
  refine (side_any tt WT.out _).mono ?_
  rintro e wb ⟨vb2, rfl, hNb⟩
  obtain ⟨ab, cb, rfl, -⟩ := id hNb.rd
  refine hK.out _ _ hNb.2 ?_
  clear hK K
  try simp only [Act.put, pA_, pB_, pC_]
  refine gU_ 6 rfl ⟨_, by intro W hW; go_simp <;> with_reducible rfl, ?_⟩
  try simp only [Act.put, pA_, pB_, pC_]
  refine gU_ 7 rfl ⟨_, by intro W hW; go_simp <;> with_reducible rfl, ?_⟩
  try simp only [Act.put, pA_, pB_, pC_]
  refine wpG_done (by kernel_rfl) ?_
  have B2 : Hid (Below w1.heap.size w1 wb) := stepB (Below.refl _ _).drew (stepB hNa.2 hNb.2)
  have R2 : Hid (BlkAt g 26 [.int .i64 kind, .int .u32 (fr : Int), .int .u32 (tt : Int), .int .i64 msg, .int .i64 part, .int .i64 parts, vm, .int .u64 (ctr : Int), vb] wb) := R1.out.kept B2.out
  have A2 : Hid (Rd wb (.slice aa ([b8 kind] : List UInt8).length ca) [b8 kind]) := hNa.rd.kept hNb.2
  have T2 : Hid (Rd wb (.slice ab (leB 4 tt).length cb) (leB 4 tt)) := hNb.rd
  have HB2 : Hid (Below w.heap.size w wb) := stepB HB.out B2.out
  have c0 : wb.cell? ⟨g, 0, none⟩ = some (.int .i64 kind) := R2.out.cell 0
  clear hNa hNb B2 R1 HB
  by_cases hk1 : kind = 1
  · have dk : (kind == 1) = true := by simpa using hk1
    have HM1 : Hid (0 ≤ msg ∧ msg < 256 ∧ 0 ≤ part ∧ part < 256 ∧ 0 ≤ parts ∧ parts < 256) := (by rcases HK.out with h | h | h | h <;> omega : 0 ≤ msg ∧ msg < 256 ∧ 0 ≤ part ∧ part < 256 ∧ 0 ≤ parts ∧ parts < 256)
    have HE : Hid ([[b8 kind], leB 4 fr, leB 4 tt, [b8 msg], [b8 part], [b8 parts]].flatten = HD) := by show _ = _; rw [HHD.out, if_pos hk1, hk1]; simp
    have HT : Hid (totL [[b8 kind], leB 4 fr, leB 4 tt, [b8 msg], [b8 part], [b8 parts]] ≤ 1000000000) := by show _ ≤ _; simp [totL, leB]
    clear hk1
    go_wp2_with fail
    refine wpG_begin (by kernel_rfl) ?_
    refine gU_ 0 rfl ⟨_, by intro W hW; go_simp <;> with_reducible rfl, ?_⟩
    try simp only [Act.put, pA_, pB_, pC_]
    refine gU_ 1 rfl ⟨_, by intro W hW; go_simp <;> with_reducible rfl, ?_⟩
    try simp only [Act.put, pA_, pB_, pC_]
    refine gU_ 2 rfl ⟨_, by intro W hW; have cW : W.cell? ⟨g, 1, none⟩ = some (.int .u32 (fr : Int)) := (R2.out.drew.kept hW).cell 1; go_simp <;> with_reducible rfl, ?_⟩
    try simp only [Act.put, pA_, pB_, pC_]
    refine gU_ 4 rfl ⟨_, by intro W hW; go_simp <;> with_reducible rfl, ?_⟩
    try simp only [Act.put, pA_, pB_, pC_]
    refine gU_ 5 rfl ⟨_, by intro W hW; go_simp <;> with_reducible rfl, ?_⟩
    try simp only [Act.put, pA_, pB_, pC_]
    refine gU_ 6 rfl ⟨_, by intro W hW; have cW : W.cell? ⟨g, 3, none⟩ = some (.int .i64 msg) := (R2.out.drew.kept hW).cell 3; go_simp <;> with_reducible rfl, ?_⟩
    try simp only [Act.put, pA_, pB_, pC_]
    refine gU_ 8 rfl ⟨_, by intro W hW; go_simp <;> with_reducible rfl, ?_⟩
    try simp only [Act.put, pA_, pB_, pC_]
    refine gU_ 9 rfl ⟨_, by intro W hW; have cW : W.cell? ⟨g, 4, none⟩ = some (.int .i64 part) := (R2.out.drew.kept hW).cell 4; go_simp <;> with_reducible rfl, ?_⟩
    try simp only [Act.put, pA_, pB_, pC_]
    refine gU_ 11 rfl ⟨_, by intro W hW; go_simp <;> with_reducible rfl, ?_⟩
    try simp only [Act.put, pA_, pB_, pC_]
    refine gU_ 12 rfl ⟨_, by intro W hW; have cW : W.cell? ⟨g, 5, none⟩ = some (.int .i64 parts) := (R2.out.drew.kept hW).cell 5; go_simp <;> with_reducible rfl, ?_⟩
    try simp only [Act.put, pA_, pB_, pC_]
    refine gD_ 3 fun K hK => ?_
    go_simp
    refine (side_any fr WF.out _).mono ?_
    rintro e w3 ⟨v3, rfl, hN3⟩
    obtain ⟨a3, k3, rfl, -⟩ := id hN3.rd
    refine hK.out _ _ hN3.2 ?_
    clear hK K
    try simp only [Act.put, pA_, pB_, pC_]
    refine gD_ 7 fun K hK => ?_
    go_simp
    refine (small_any msg HM1.out.1 HM1.out.2.1 _).mono ?_
    rintro e w4 ⟨v4, rfl, hN4⟩
    obtain ⟨a4, k4, rfl, -⟩ := id hN4.rd
    refine hK.out _ _ hN4.2 ?_
    clear hK K
    try simp only [Act.put, pA_, pB_, pC_]
    refine gD_ 10 fun K hK => ?_
    go_simp
    refine (small_any part HM1.out.2.2.1 HM1.out.2.2.2.1 _).mono ?_
    rintro e w5 ⟨v5, rfl, hN5⟩
    obtain ⟨a5, k5, rfl, -⟩ := id hN5.rd
    refine hK.out _ _ hN5.2 ?_
    clear hK K
    try simp only [Act.put, pA_, pB_, pC_]
    refine gD_ 13 fun K hK => ?_
    go_simp
    refine (small_any parts HM1.out.2.2.2.2.1 HM1.out.2.2.2.2.2 _).mono ?_
    rintro e w6 ⟨v6, rfl, hN6⟩
    obtain ⟨a6, k6, rfl, -⟩ := id hN6.rd
    have hL := RdL.six18 (e := 23) (b := w6.heap.size) rfl (((((A2.out.drew.kept hN3.2).kept hN4.2).kept hN5.2).kept hN6.2)) (((hN3.rd.kept hN4.2).kept hN5.2).kept hN6.2) ((((T2.out.drew.kept hN3.2).kept hN4.2).kept hN5.2).kept hN6.2) ((hN4.rd.kept hN5.2).kept hN6.2) (hN5.rd.kept hN6.2) hN6.rd
    have g6 : Below w.heap.size w w6 := stepB (stepB (stepB (stepB HB2.out.drew hN3.2) hN4.2) hN5.2) hN6.2
    have HL : Hid _ := hL
    have HG6 : Hid (Below w.heap.size w w6) := g6
    refine hK.out _ _ hN6.2 ?_
    clear hK K
    try simp only [Act.put, pA_, pB_, pC_]
    refine gD_ 14 fun K hK => ?_
    go_simp
    refine hK.out _ _ (growB _) ?_
    clear hK K
    try simp only [Act.put, pA_, pB_, pC_]
    refine gD_ 15 fun K hK => ?_
    go_simp
    refine (join_any _ _ _ _ HL.out HT.out).mono ?_
    rintro e wj ⟨vj, rfl, hNj⟩
    refine hK.out _ _ hNj.2 ?_
    clear hK K
    try simp only [Act.put, pA_, pB_, pC_]
    refine gU_ 16 rfl ⟨_, by intro W hW; go_simp <;> with_reducible rfl, ?_⟩
    try simp only [Act.put, pA_, pB_, pC_]
    refine wpG_done (by kernel_rfl) ?_
    rw [HE.out] at hNj
    have HN : Hid (New 5 w vj HD wj) := hNj.from (stepB HG6.out (growB _))
    clear hNj
    go_wp2
    go_ret
    exact ⟨_, rfl, HN.out⟩
  have dk1 : (kind == 1) = false := by simpa using hk1
  by_cases hk2 : kind = 2
  · have dk : (kind == 2) = true := by simpa using hk2
    have HE : Hid ([[b8 kind], leB 4 tt].flatten = HD) := by show _ = _; rw [HHD.out, if_neg hk1, if_pos hk2, hk2]; simp
    have HT : Hid (totL [[b8 kind], leB 4 tt] ≤ 1000000000) := by show _ ≤ _; simp [totL, leB]
    have HL : Hid _ := RdL.two18 (e := 23) (b := wb.heap.size) rfl A2.out T2.out
    clear hk1 hk2
    go_wp2_with fail
    refine (join_any _ _ _ _ HL.out HT.out).mono ?_
    rintro e wj ⟨vj, rfl, hNj⟩
    rw [HE.out] at hNj
    have HN : Hid (New 5 w vj HD wj) := hNj.from (stepB HB2.out (growB _))
    clear hNj
    go_wp2
    go_ret
    exact ⟨_, rfl, HN.out⟩
  have dk2 : (kind == 2) = false := by simpa using hk2
  have HE : Hid ([[b8 kind], leB 4 tt, (List.range 8).map (stB ctr)].flatten = HD) := by show _ = _; rw [HHD.out, if_neg hk1, if_neg hk2]; simp [leB]
  have HT : Hid (totL [[b8 kind], leB 4 tt, (List.range 8).map (stB ctr)] ≤ 1000000000) := by show _ ≤ _; simp [totL, leB]
  have c7 : wb.cell? ⟨g, 7, none⟩ = some (.int .u64 (ctr : Int)) := R2.out.cell 7
  clear hk1 hk2
  go_wp2_with fail
  refine (store_k ctr 8 8 (by decide) (by omega) _).mono ?_
  rintro e w3 ⟨v3, rfl, hN3⟩
  obtain ⟨a3, k3, rfl, -⟩ := id hN3.rd
  have HL : Hid _ := RdL.three18 (e := 23) (b := w3.heap.size) rfl (A2.out.kept hN3.2) (T2.out.kept hN3.2) hN3.rd
  have HB3 : Hid (Below w.heap.size w w3) := stepB HB2.out hN3.2
  clear hN3 c7
  go_wp2_with fail
  refine (join_any _ _ _ _ HL.out HT.out).mono ?_
  rintro e wj ⟨vj, rfl, hNj⟩
  rw [HE.out] at hNj
  have HN : Hid (New 5 w vj HD wj) := hNj.from (stepB HB3.out (growB _))
  clear hNj
  go_wp2
  go_ret
  exact ⟨_, rfl, HN.out⟩

theorem wpList_loadG18 {P : Program} {ops : Array Oper} {rest : List Oper} {op : Oper} {a : Act} {w : World} {Q : Exit → Act → World → Prop} (ty : TypeId) (x : Operand) (ho : op.op = .load ty x) {g : Nat} (hx : a.eval x = .pointer (some ⟨g, 0, none⟩))
    {bt : TypeId} (cs : List Value) (hb : BlkAt g bt cs w) {d : TypeDesc} (hu : P.underlying ty = some d) (hd : d.isRow = true) (hi : (P.info? ty).map (·.size) = some cs.length) (hw : Region.wanted op (yielded ops a.tmps) = true)
    (h : wpList P ops Q rest (a.put op.dst (.agg cs.toArray)) w) : wpList P ops Q (op :: rest) a w := by
  refine wpList_step fun K hK => ?_
  rw [if_pos hw]
  unfold Oper.wp
  rw [exec_load_part ty x ho hx [] cs [] hb (Below.refl _ _) (by simp) rfl hu hd hi]
  exact hK _ _ h

theorem exec_whole18 {op : Oper} {a : Act} {w W : World} (x : Operand) (ho : op.op = .load 26 x) {g : Nat} {cs : List Value} (hx : a.eval x = .pointer (some ⟨g, 0, none⟩)) (hl : cs.length = 9) (hb : BlkAt g 26 cs w) (hW : Below w.heap.size w W) :
    (execOp a.eval op).run Try.prog W = .ok (.value (.agg cs.toArray)) W := by
  refine exec_load_part 26 x ho hx [] cs [] hb hW (by simp) rfl Try.underlying26 rfl ?_
  rw [hl]
  exact info_wk

set_option maxRecDepth 100000 in
set_option maxHeartbeats 8000000 in
theorem wput_arg (p : Pkt) (hw : PkW p) (hm : mayB p = false) (vm vb : Value) (A : Array Value) (hA : A = (pkC p vm vb).toArray) (w : World) (hr : PkR w p vm vb) :
    Calls Try.prog 9 #[.agg A] w fun e w' => e = .returned (.tuple #[.slice none 0 0, .int .i64 1]) ∧ Below w.heap.size w w' := by
  have HW : Hid (PkW p) := hw
  have HM : Hid (mayB p = false) := hm
  have HA : Hid (A = (pkC p vm vb).toArray) := hA
  have HR : Hid (PkR w p vm vb) := hr
  clear hw hm hA hr
  go_enter Try.func9, Try.ntmps9
  go_wp2_with (refine wpList_box_blk rfl 26 _ rfl (pkC p vm vb) (by rw [← HA.out]; rfl) ?_)
  intro w1 r1 b1 s1
  go_wp2_with (refine wpList_load_part rfl 26 _ rfl rfl [] (pkC p vm vb) [] r1 (by simp) rfl Try.underlying26 rfl info_wk ?_)
  refine (maybe_any p HW.out vm vb _ rfl _ (HR.out.kept b1)).mono ?_
  rintro e w2 ⟨rfl, b2⟩
  rw [HM.out]
  have HB : Hid (Below w.heap.size w w2) := stepB b1 b2
  clear r1 b1 b2 s1
  go_wp2
  go_ret2
  exact ⟨rfl, HB.out⟩

set_option maxRecDepth 100000 in
set_option maxHeartbeats 8000000 in
theorem wput_any (p : Pkt) (hw : PkW p) (hm : mayB p = true) (vm vb : Value) (A : Array Value) (hA : A = (pkC p vm vb).toArray) (w : World) (hr : PkR w p vm vb) :
    Calls Try.prog 9 #[.agg A] w fun e w' => ∃ v, e = .returned (.tuple #[v, .int .i64 0]) ∧ New 5 w v (putL p) w' := by
  have HW : Hid (PkW p) := hw
  have HM : Hid (mayB p = true) := hm
  have HA : Hid (A = (pkC p vm vb).toArray) := hA
  have HR : Hid (PkR w p vm vb) := hr
  have HE : Hid ([hdL p, p.mac, p.body].flatten = putL p) := by show _ = _; rw [← hdL_put hm]; simp
  have HT : Hid (totL [hdL p, p.mac, p.body] ≤ 1000000000) := by
    show _ ≤ _
    have h := (putL_le hm).1
    rw [← hdL_put hm] at h
    have : totL [hdL p, p.mac, p.body] = (hdL p ++ p.mac ++ p.body).length := by simp [totL]
    omega
  obtain ⟨am, cm, evm, -⟩ := id hr.mac
  obtain ⟨ab, cb, evb, -⟩ := id hr.body
  obtain ⟨PL, hPL⟩ : ∃ L, L = putL p := ⟨_, rfl⟩
  rw [← hPL] at HE ⊢
  subst evm evb
  clear hw hm hA hr hPL
  go_enter Try.func9, Try.ntmps9
  go_wp2_with (refine wpList_box_blk rfl 26 _ rfl (pkC p (.slice am p.mac.length cm) (.slice ab p.body.length cb)) (by rw [← HA.out]; rfl) ?_)
  intro w1 r1 b1 s1
  go_wp2_with (refine wpList_load_part rfl 26 _ rfl rfl [] (pkC p (.slice am p.mac.length cm) (.slice ab p.body.length cb)) [] r1 (by simp) rfl Try.underlying26 rfl info_wk ?_)
  refine (maybe_any p HW.out _ _ _ rfl _ (HR.out.kept b1)).mono ?_
  rintro e w2 ⟨rfl, b2⟩
  rw [HM.out]
  obtain ⟨g, hg⟩ : ∃ n : Nat, n = w.heap.size := ⟨_, rfl⟩
  rw [← hg] at r1 ⊢
  have HB : Hid (Below w.heap.size w w2) := stepB b1 b2
  have R2 : Hid (BlkAt g 26 (pkC p (.slice am p.mac.length cm) (.slice ab p.body.length cb)) w2) := r1.kept b2
  have RM : Hid (Rd w2 (.slice am p.mac.length cm) p.mac) := HR.out.mac.kept HB.out
  have RB : Hid (Rd w2 (.slice ab p.body.length cb) p.body) := HR.out.body.kept HB.out
  clear r1 b1 b2 s1 hg HR HA
  obtain ⟨lm, hlm⟩ : ∃ n : Nat, n = p.mac.length := ⟨_, rfl⟩
  obtain ⟨lb, hlb⟩ : ∃ n : Nat, n = p.body.length := ⟨_, rfl⟩
  rw [← hlm, ← hlb] at R2
  rw [← hlm] at RM
  rw [← hlb] at RB
  clear hlm hlb
  go_wp2_with fail
  refine wpG_begin (by kernel_rfl) ?_
  refine gU_ 0 rfl ⟨_, by intro W hW; exact exec_whole18 _ rfl rfl rfl R2.out.drew hW, ?_⟩
  try simp only [Act.put, pA_, pB_, pC_]
  refine gU_ 2 rfl ⟨_, by intro W hW; go_simp <;> with_reducible rfl, ?_⟩
  try simp only [Act.put, pA_, pB_, pC_]
  refine gU_ 3 rfl ⟨_, by intro W hW; have cW : W.cell? ⟨g, 6, none⟩ = some (.slice am lm cm) := (R2.out.drew.kept hW).cell 6; go_simp <;> with_reducible rfl, ?_⟩
  try simp only [Act.put, pA_, pB_, pC_]
  refine gU_ 4 rfl ⟨_, by intro W hW; go_simp <;> with_reducible rfl, ?_⟩
  try simp only [Act.put, pA_, pB_, pC_]
  refine gU_ 5 rfl ⟨_, by intro W hW; have cW : W.cell? ⟨g, 8, none⟩ = some (.slice ab lb cb) := (R2.out.drew.kept hW).cell 8; go_simp <;> with_reducible rfl, ?_⟩
  try simp only [Act.put, pA_, pB_, pC_]
  refine gD_ 1 fun K hK => ?_
  go_simp
  refine (head_any p HW.out HM.out _ _ _ rfl _).mono ?_
  rintro e w3 ⟨v3, rfl, hN3⟩
  obtain ⟨a3, k3, rfl, -⟩ := id hN3.rd
  have HL : Hid _ := RdL.three18 (e := 23) (b := w3.heap.size) rfl hN3.rd (RM.out.drew.kept hN3.2) (RB.out.drew.kept hN3.2)
  have HB3 : Hid (Below w.heap.size w w3) := stepB HB.out.drew hN3.2
  refine hK.out _ _ hN3.2 ?_
  clear hK K
  try simp only [Act.put, pA_, pB_, pC_]
  refine gD_ 6 fun K hK => ?_
  go_simp
  refine hK.out _ _ (growB _) ?_
  clear hK K
  try simp only [Act.put, pA_, pB_, pC_]
  refine gD_ 7 fun K hK => ?_
  go_simp
  refine (join_any _ _ _ _ HL.out HT.out).mono ?_
  rintro e wj ⟨vj, rfl, hNj⟩
  refine hK.out _ _ hNj.2 ?_
  clear hK K
  try simp only [Act.put, pA_, pB_, pC_]
  refine gU_ 8 rfl ⟨_, by intro W hW; go_simp <;> with_reducible rfl, ?_⟩
  try simp only [Act.put, pA_, pB_, pC_]
  refine gU_ 9 rfl ⟨_, by intro W hW; go_simp <;> with_reducible rfl, ?_⟩
  try simp only [Act.put, pA_, pB_, pC_]
  refine wpG_done (by kernel_rfl) ?_
  rw [HE.out] at hNj
  have HN : Hid (New 5 w vj PL wj) := hNj.from (stepB HB3.out (growB _))
  clear hNj
  go_wp2
  go_ret2
  exact ⟨_, rfl, HN.out⟩

set_option maxRecDepth 100000 in
set_option maxHeartbeats 8000000 in
theorem wsigned_any (p : Pkt) (hw : PkW p) (vm vb : Value) (A : Array Value) (hA : A = (pkC p vm vb).toArray) (w : World) (hr : PkR w p vm vb) :
    Calls Try.prog 11 #[.agg A] w fun e w' => ∃ v, e = .returned v ∧ New 5 w v (sgL p) w' := by
  have HW : Hid (PkW p) := hw
  have HA : Hid (A = (pkC p vm vb).toArray) := hA
  have HR : Hid (PkR w p vm vb) := hr
  obtain ⟨am, cm, evm, -⟩ := id hr.mac
  obtain ⟨ab, cb, evb, -⟩ := id hr.body
  obtain ⟨PL, hPL⟩ : ∃ L, L = sgL p := ⟨_, rfl⟩
  rw [← hPL]
  have HPL : Hid (PL = sgL p) := hPL
  subst evm evb
  clear hw hA hr hPL
  go_enter Try.func11, Try.ntmps11
  go_wp2_with (refine wpList_box_blk rfl 26 _ rfl (pkC p (.slice am p.mac.length cm) (.slice ab p.body.length cb)) (by rw [← HA.out]; rfl) ?_)
  intro w1 r1 b1 s1
  obtain ⟨g, hg⟩ : ∃ n : Nat, n = w.heap.size := ⟨_, rfl⟩
  rw [← hg] at r1 ⊢
  obtain ⟨K, hK⟩ : ∃ k : Int, k = p.kind := ⟨_, rfl⟩
  have c0 : w1.cell? ⟨g, 0, none⟩ = some (.int .i64 K) := by rw [hK]; exact r1.cell 0
  have HK : Hid (K = p.kind) := hK
  have R1 : Hid (BlkAt g 26 (pkC p (.slice am p.mac.length cm) (.slice ab p.body.length cb)) w1) := r1
  have B1 : Hid (Below w.heap.size w w1) := b1
  clear hK r1 b1 s1 hg HA
  by_cases hk : K = 1
  rotate_left
  · have d : (K != 1) = true := by simpa using hk
    have HN : Hid (New 5 w (.slice none 0 0) PL w1) := by
      show New _ _ _ _ _
      rw [HPL.out]
      unfold sgL
      rw [if_neg (by rw [← HK.out]; exact fun h => hk h.2)]
      exact ⟨World.ownsRow_nil _ _ _ _, B1.out⟩
    clear hk
    go_wp2
    go_ret
    exact ⟨_, rfl, HN.out⟩
  have d : (K != 1) = false := by simpa using hk
  have HK1 : Hid (p.kind = 1) := (by rw [← HK.out]; exact hk : p.kind = 1)
  clear hk
  by_cases hm : mayB p = true
  rotate_left
  · have hmf : mayB p = false := by simpa using hm
    go_wp2_with (refine wpList_loadG18 26 _ rfl rfl (pkC p (.slice am p.mac.length cm) (.slice ab p.body.length cb)) R1.out Try.underlying26 rfl info_wk (by go_simp; done) ?_)
    refine (maybe_any p HW.out _ _ _ rfl _ (HR.out.kept B1.out)).mono ?_
    rintro e w2 ⟨rfl, b2⟩
    have HN : Hid (New 5 w (.slice none 0 0) PL w2) := by
      show New _ _ _ _ _
      rw [HPL.out]
      unfold sgL
      rw [if_neg (fun h => hm h.1)]
      exact ⟨World.ownsRow_nil _ _ _ _, stepB B1.out b2⟩
    rw [hmf]
    clear hm hmf c0 b2
    go_wp2
    go_ret
    exact ⟨_, rfl, HN.out⟩
  have HM : Hid (mayB p = true) := hm
  have HE : Hid ([hdL p, p.body].flatten = PL) := by show _ = _; rw [HPL.out, ← hdL_sg hm HK1.out]; simp
  have HT : Hid (totL [hdL p, p.body] ≤ 1000000000) := by
    show _ ≤ _
    have h := (putL_le hm).1
    rw [← hdL_put hm] at h
    simp [totL] at h ⊢
    omega
  go_wp2_with (refine wpList_loadG18 26 _ rfl rfl (pkC p (.slice am p.mac.length cm) (.slice ab p.body.length cb)) R1.out Try.underlying26 rfl info_wk (by go_simp; done) ?_)
  refine (maybe_any p HW.out _ _ _ rfl _ (HR.out.kept B1.out)).mono ?_
  rintro e w2 ⟨rfl, b2⟩
  rw [hm]
  have HB : Hid (Below w.heap.size w w2) := stepB B1.out b2
  have R2 : Hid (BlkAt g 26 (pkC p (.slice am p.mac.length cm) (.slice ab p.body.length cb)) w2) := R1.out.kept b2
  have RB : Hid (Rd w2 (.slice ab p.body.length cb) p.body) := HR.out.body.kept HB.out
  obtain ⟨lb, hlb⟩ : ∃ n : Nat, n = p.body.length := ⟨_, rfl⟩
  rw [← hlb] at R2 RB
  clear hm c0 b2 B1 R1 HR hlb
  go_wp2_with fail
  refine wpG_begin (by kernel_rfl) ?_
  refine gU_ 0 rfl ⟨_, by intro W hW; exact exec_whole18 _ rfl rfl rfl R2.out.drew hW, ?_⟩
  try simp only [Act.put, pA_, pB_, pC_]
  refine gU_ 2 rfl ⟨_, by intro W hW; go_simp <;> with_reducible rfl, ?_⟩
  try simp only [Act.put, pA_, pB_, pC_]
  refine gU_ 3 rfl ⟨_, by intro W hW; have cW : W.cell? ⟨g, 8, none⟩ = some (.slice ab lb cb) := (R2.out.drew.kept hW).cell 8; go_simp <;> with_reducible rfl, ?_⟩
  try simp only [Act.put, pA_, pB_, pC_]
  refine gD_ 1 fun K hK => ?_
  go_simp
  refine (head_any p HW.out HM.out _ _ _ rfl _).mono ?_
  rintro e w3 ⟨v3, rfl, hN3⟩
  obtain ⟨a3, k3, rfl, -⟩ := id hN3.rd
  have HL : Hid _ := RdL.two18 (e := 23) (b := w3.heap.size) rfl hN3.rd (RB.out.drew.kept hN3.2)
  have HB3 : Hid (Below w.heap.size w w3) := stepB HB.out.drew hN3.2
  refine hK.out _ _ hN3.2 ?_
  clear hK K
  try simp only [Act.put, pA_, pB_, pC_]
  refine gD_ 4 fun K hK => ?_
  go_simp
  refine hK.out _ _ (growB _) ?_
  clear hK K
  try simp only [Act.put, pA_, pB_, pC_]
  refine gD_ 5 fun K hK => ?_
  go_simp
  refine (join_any _ _ _ _ HL.out HT.out).mono ?_
  rintro e wj ⟨vj, rfl, hNj⟩
  refine hK.out _ _ hNj.2 ?_
  clear hK K
  try simp only [Act.put, pA_, pB_, pC_]
  refine gU_ 6 rfl ⟨_, by intro W hW; go_simp <;> with_reducible rfl, ?_⟩
  try simp only [Act.put, pA_, pB_, pC_]
  refine wpG_done (by kernel_rfl) ?_
  rw [HE.out] at hNj
  have HN : Hid (New 5 w vj PL wj) := hNj.from (stepB HB3.out (growB _))
  clear hNj
  go_wp2
  go_ret
  exact ⟨_, rfl, HN.out⟩
end Go.Proofs.Ytonnngndknoljaa
