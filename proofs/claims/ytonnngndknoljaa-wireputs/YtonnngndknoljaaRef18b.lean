/- Whether two packets are the same, and a packet's bytes: contracts of the reference of layer 18, second part. -/
import Derived.Test.YtonnngndknoljaaRef18a
namespace Go.Proofs.Ytonnngndknoljaa
open Go.ChangeShapes Go.WideShapes Go.ChangeAt Go.RowKit
set_option linter.unusedSimpArgs false
set_option linter.unusedVariables false

theorem conv18 {w : World} {v : Value} {l : List UInt8} (h : Rd w v l) : (convert 23 9 v).run Try.prog w = .ok (.string ⟨l.toArray⟩) w := h.conv Try.underlying23 Try.underlying5 Try.underlying9

set_option maxRecDepth 100000 in
set_option maxHeartbeats 8000000 in
theorem same18_any (p q : Pkt) (vm vb um ub : Value) (A B : Array Value) (hA : A = (pkC p vm vb).toArray) (hB : B = (pkC q um ub).toArray) (w : World) (hp : PkR w p vm vb) (hq : PkR w q um ub) :
    Calls Try.prog 16 #[.agg A, .agg B] w fun e w' => e = .returned (.bool (smB p q)) ∧ Below w.heap.size w w' := by
  obtain ⟨kind, fr, tt, msg, part, parts, mac, ctr, body⟩ := p
  obtain ⟨kind', fr', tt', msg', part', parts', mac', ctr', body'⟩ := q
  have HY : Hid (smB ⟨kind, fr, tt, msg, part, parts, mac, ctr, body⟩ ⟨kind', fr', tt', msg', part', parts', mac', ctr', body'⟩ = ((kind == kind') && (fr == fr') && (tt == tt') && (msg == msg') && (part == part') && (parts == parts') && (ctr == ctr') && (mac == mac') && (body == body'))) := rfl
  generalize smB ⟨kind, fr, tt, msg, part, parts, mac, ctr, body⟩ ⟨kind', fr', tt', msg', part', parts', mac', ctr', body'⟩ = r at HY ⊢
  have HA : Hid (A = [.int .i64 kind, .int .u32 (fr : Int), .int .u32 (tt : Int), .int .i64 msg, .int .i64 part, .int .i64 parts, vm, .int .u64 (ctr : Int), vb].toArray) := hA
  have HB' : Hid (B = [.int .i64 kind', .int .u32 (fr' : Int), .int .u32 (tt' : Int), .int .i64 msg', .int .i64 part', .int .i64 parts', um, .int .u64 (ctr' : Int), ub].toArray) := hB
  have HP1 : Hid (Rd w vm mac) := hp.mac
  have HP2 : Hid (Rd w vb body) := hp.body
  have HQ1 : Hid (Rd w um mac') := hq.mac
  have HQ2 : Hid (Rd w ub body') := hq.body
  clear hA hB hp hq
  go_enter Try.func16, Try.ntmps16
  go_wp2_with (refine wpList_box_blk rfl 28 _ rfl [.int .i64 kind, .int .u32 (fr : Int), .int .u32 (tt : Int), .int .i64 msg, .int .i64 part, .int .i64 parts, vm, .int .u64 (ctr : Int), vb] (by rw [← HA.out]; rfl) ?_)
  intro w1 r1 b1 s1
  obtain ⟨g1, hg1⟩ : ∃ n : Nat, n = w.heap.size := ⟨_, rfl⟩
  rw [← hg1] at r1 ⊢
  have R1 : Hid (BlkAt g1 28 _ w1) := r1
  have HB1 : Hid (Below w.heap.size w w1) := b1
  clear r1 b1 s1 hg1 HA
  go_wp2_with (refine wpList_box_blk rfl 28 _ rfl [.int .i64 kind', .int .u32 (fr' : Int), .int .u32 (tt' : Int), .int .i64 msg', .int .i64 part', .int .i64 parts', um, .int .u64 (ctr' : Int), ub] (by rw [← HB'.out]; rfl) ?_)
  intro w2 r2 b2 s2
  obtain ⟨g2, hg2⟩ : ∃ n : Nat, n = w1.heap.size := ⟨_, rfl⟩
  rw [← hg2] at r2 ⊢
  have r1 := R1.out.kept b2
  have HB : Hid (Below w.heap.size w w2) := stepB HB1.out b2
  have v1 := conv18 (HP1.out.kept HB.out)
  have v2 := conv18 (HP2.out.kept HB.out)
  have v3 := conv18 (HQ1.out.kept HB.out)
  have v4 := conv18 (HQ2.out.kept HB.out)
  have c0 : w2.cell? ⟨g1, 0, none⟩ = some (.int .i64 kind) := r1.cell 0
  have c1 : w2.cell? ⟨g1, 1, none⟩ = some (.int .u32 (fr : Int)) := r1.cell 1
  have c2 : w2.cell? ⟨g1, 2, none⟩ = some (.int .u32 (tt : Int)) := r1.cell 2
  have c3 : w2.cell? ⟨g1, 3, none⟩ = some (.int .i64 msg) := r1.cell 3
  have c4 : w2.cell? ⟨g1, 4, none⟩ = some (.int .i64 part) := r1.cell 4
  have c5 : w2.cell? ⟨g1, 5, none⟩ = some (.int .i64 parts) := r1.cell 5
  have c6 : w2.cell? ⟨g1, 6, none⟩ = some vm := r1.cell 6
  have c7 : w2.cell? ⟨g1, 7, none⟩ = some (.int .u64 (ctr : Int)) := r1.cell 7
  have c8 : w2.cell? ⟨g1, 8, none⟩ = some vb := r1.cell 8
  have e0 : w2.cell? ⟨g2, 0, none⟩ = some (.int .i64 kind') := r2.cell 0
  have e1 : w2.cell? ⟨g2, 1, none⟩ = some (.int .u32 (fr' : Int)) := r2.cell 1
  have e2 : w2.cell? ⟨g2, 2, none⟩ = some (.int .u32 (tt' : Int)) := r2.cell 2
  have e3 : w2.cell? ⟨g2, 3, none⟩ = some (.int .i64 msg') := r2.cell 3
  have e4 : w2.cell? ⟨g2, 4, none⟩ = some (.int .i64 part') := r2.cell 4
  have e5 : w2.cell? ⟨g2, 5, none⟩ = some (.int .i64 parts') := r2.cell 5
  have e6 : w2.cell? ⟨g2, 6, none⟩ = some um := r2.cell 6
  have e7 : w2.cell? ⟨g2, 7, none⟩ = some (.int .u64 (ctr' : Int)) := r2.cell 7
  have e8 : w2.cell? ⟨g2, 8, none⟩ = some ub := r2.cell 8
  clear r1 r2 R1 HB1 HB' b2 s2 hg2
  by_cases h0 : kind = kind'
  rotate_left
  · have d : (kind == kind') = false := by simpa using h0
    have HR : Hid (r = false) := (by rw [HY.out]; simp [h0] : r = false)
    clear h0
    clear HY
    go_wp2
    go_ret
    exact ⟨ret_bool HR.out, HB.out⟩
  have d0 : (kind == kind') = true := by rw [h0]; simp
  by_cases h1 : fr = fr'
  rotate_left
  · have d : ((fr : Int) == (fr' : Int)) = false := by rw [beq_eq_false_iff_ne]; omega
    have HR : Hid (r = false) := (by rw [HY.out]; simp [h1] : r = false)
    clear h0
    clear h1
    clear HY
    go_wp2
    go_ret
    exact ⟨ret_bool HR.out, HB.out⟩
  have d1 : ((fr : Int) == (fr' : Int)) = true := by rw [h1]; simp
  by_cases h2 : tt = tt'
  rotate_left
  · have d : ((tt : Int) == (tt' : Int)) = false := by rw [beq_eq_false_iff_ne]; omega
    have HR : Hid (r = false) := (by rw [HY.out]; simp [h2] : r = false)
    clear h0
    clear h1
    clear h2
    clear HY
    go_wp2
    go_ret
    exact ⟨ret_bool HR.out, HB.out⟩
  have d2 : ((tt : Int) == (tt' : Int)) = true := by rw [h2]; simp
  by_cases h3 : msg = msg'
  rotate_left
  · have d : (msg == msg') = false := by simpa using h3
    have HR : Hid (r = false) := (by rw [HY.out]; simp [h3] : r = false)
    clear h0
    clear h1
    clear h2
    clear h3
    clear HY
    go_wp2
    go_ret
    exact ⟨ret_bool HR.out, HB.out⟩
  have d3 : (msg == msg') = true := by rw [h3]; simp
  by_cases h4 : part = part'
  rotate_left
  · have d : (part == part') = false := by simpa using h4
    have HR : Hid (r = false) := (by rw [HY.out]; simp [h4] : r = false)
    clear h0
    clear h1
    clear h2
    clear h3
    clear h4
    clear HY
    go_wp2
    go_ret
    exact ⟨ret_bool HR.out, HB.out⟩
  have d4 : (part == part') = true := by rw [h4]; simp
  by_cases h5 : parts = parts'
  rotate_left
  · have d : (parts == parts') = false := by simpa using h5
    have HR : Hid (r = false) := (by rw [HY.out]; simp [h5] : r = false)
    clear h0
    clear h1
    clear h2
    clear h3
    clear h4
    clear h5
    clear HY
    go_wp2
    go_ret
    exact ⟨ret_bool HR.out, HB.out⟩
  have d5 : (parts == parts') = true := by rw [h5]; simp
  by_cases h6 : ctr = ctr'
  rotate_left
  · have d : ((ctr : Int) == (ctr' : Int)) = false := by rw [beq_eq_false_iff_ne]; omega
    have HR : Hid (r = false) := (by rw [HY.out]; simp [h6] : r = false)
    clear h0
    clear h1
    clear h2
    clear h3
    clear h4
    clear h5
    clear h6
    clear HY
    go_wp2
    go_ret
    exact ⟨ret_bool HR.out, HB.out⟩
  have d6 : ((ctr : Int) == (ctr' : Int)) = true := by rw [h6]; simp
  by_cases h7 : mac = mac'
  rotate_left
  · have d : (mac == mac') = false := by simpa using h7
    have HR : Hid (r = false) := (by rw [HY.out]; simp [h7] : r = false)
    clear h0
    clear h1
    clear h2
    clear h3
    clear h4
    clear h5
    clear h6
    clear h7
    clear HY
    go_wp2
    go_ret
    exact ⟨ret_bool HR.out, HB.out⟩
  have d7 : (mac == mac') = true := by rw [h7]; simp
  by_cases h8 : body = body'
  rotate_left
  · have d : (body == body') = false := by simpa using h8
    have HR : Hid (r = false) := (by rw [HY.out]; simp [h8] : r = false)
    clear h0
    clear h1
    clear h2
    clear h3
    clear h4
    clear h5
    clear h6
    clear h7
    clear h8
    clear HY
    go_wp2
    go_ret
    exact ⟨ret_bool HR.out, HB.out⟩
  have d8 : (body == body') = true := by rw [h8]; simp
  have HR : Hid (r = true) := (by rw [HY.out]; simp [h0, h1, h2, h3, h4, h5, h6, h7, h8] : r = true)
  clear h0 h1 h2 h3 h4 h5 h6 h7 h8
  clear HY
  go_wp2
  go_ret
  exact ⟨ret_bool HR.out, HB.out⟩

end Go.Proofs.Ytonnngndknoljaa
