/- Rules as the document's own text has them. -/
import Derived.Test.YtliiofjcghdjoaaDoorAw22
import Derived.Test.YtliiofjcghdjoaaDoorRft
namespace Go.Proofs.YtliiofjcghdjoaaDoor
open Go.ChangeShapes Go.WideShapes Go.ChangeAt Go.RowKit
set_option linter.unusedSimpArgs false
set_option linter.unusedVariables false

theorem alloc_r22 (w : World) : (Instr.alloc 27 true (.tuple #[])).run Tryd.prog w = .ok (.pointer (some ⟨w.heap.size, 0, none⟩)) (w.alloc (.cells (rlC ⟨0, 0, 0, 0, 0, 0, 0⟩).toArray 27)) := by kernel_rfl
theorem build_r22 (r0 r1 : Nat) (r2 : Int) (r3 r4 r5 r6 : Nat) (w : World) : (Instr.build 27 #[(0, .int .u64 (r0 : Int)), (1, .int .u64 (r1 : Int)), (2, .int .i64 r2), (3, .int .u64 (r3 : Int)), (4, .int .u64 (r4 : Int)), (5, .int .u64 (r5 : Int)), (6, .int .u64 (r6 : Int))]).run Tryd.prog w = .ok (.agg #[.int .u64 (r0 : Int), .int .u64 (r1 : Int), .int .i64 r2, .int .u64 (r3 : Int), .int .u64 (r4 : Int), .int .u64 (r5 : Int), .int .u64 (r6 : Int)]) w := by kernel_rfl

set_option maxRecDepth 100000 in
set_option maxHeartbeats 4000000 in
theorem rules_any (r : Rl) (A : Array Value) (hA : A = (rlC r).toArray) (w : World) :
    Calls Tryd.prog 8 #[.agg A] w fun e w' => e = .returned (.agg (rlC r).toArray) ∧ Below w.heap.size w w' := by
  have HA : Hid (A = (rlC r).toArray) := hA
  clear hA
  go_enter Tryd.func8, Tryd.ntmps8
  go_wp2_with (refine wpList_box_blk rfl 24 _ rfl (rlC r) (by rw [← HA.out]; rfl) ?_)
  intro w1 r1 b1 s1
  go_wp2_with (refine wpList_alloc_blk rfl 27 rfl (rlC ⟨0, 0, 0, 0, 0, 0, 0⟩) (alloc_r22 _) ?_)
  intro w2 r2 b2 s2
  obtain ⟨g1, hg1⟩ : ∃ n : Nat, n = w.heap.size := ⟨_, rfl⟩
  obtain ⟨g2, hg2⟩ : ∃ n : Nat, n = w1.heap.size := ⟨_, rfl⟩
  rw [← hg1] at r1 ⊢
  rw [← hg2] at r2 ⊢
  have q1 := r1.kept b2
  have H2 : Hid (BlkAt g2 27 (rlC ⟨0, 0, 0, 0, 0, 0, 0⟩) w2 ∧ Below w.heap.size w w2 ∧ w.heap.size ≤ g2) := ⟨r2, stepB b1 b2, by have := b1.size; omega⟩
  have c0 : w2.cell? ⟨g1, 0, none⟩ = some (.int .u64 (r.retry : Int)) := q1.cell 0
  have c1 : w2.cell? ⟨g1, 1, none⟩ = some (.int .u64 (r.rmax : Int)) := q1.cell 1
  have c2 : w2.cell? ⟨g1, 2, none⟩ = some (.int .i64 r.tries) := q1.cell 2
  have c3 : w2.cell? ⟨g1, 3, none⟩ = some (.int .u64 (r.rekey : Int)) := q1.cell 3
  have c4 : w2.cell? ⟨g1, 4, none⟩ = some (.int .u64 (r.expire : Int)) := q1.cell 4
  have c5 : w2.cell? ⟨g1, 5, none⟩ = some (.int .u64 (r.rcount : Int)) := q1.cell 5
  have c6 : w2.cell? ⟨g1, 6, none⟩ = some (.int .u64 (r.ecount : Int)) := q1.cell 6
  clear r1 r2 b1 b2 s1 s2 hg1 hg2 q1 HA
  go_wp2_with (first | refine wpList_buildB rfl 27 _ rfl #[(0, .int .u64 (r.retry : Int)), (1, .int .u64 (r.rmax : Int)), (2, .int .i64 r.tries), (3, .int .u64 (r.rekey : Int)), (4, .int .u64 (r.expire : Int)), (5, .int .u64 (r.rcount : Int)), (6, .int .u64 (r.ecount : Int))] (by go_simp; done) _ (build_r22 _ _ _ _ _ _ _ _) ?_ | (refine wpList_store_part rfl 27 _ _ rfl rfl (rlC r) rfl [] (rlC ⟨0, 0, 0, 0, 0, 0, 0⟩) [] (rlC r) H2.out.1 rfl rfl rfl rfl info_r22 (one_rl _) ?_; intro wz wzr wzw))
  refine bodyPost_blk rfl rfl rfl wzr Tryd.underlying27 rfl info_r22 ?_
  exact ⟨rfl, wzw.below _ _ H2.out.2.2 H2.out.2.1⟩
end Go.Proofs.YtliiofjcghdjoaaDoor
