/- The laws' own packets, and that the program does something at all: layer 18. -/
import Derived.Test.YtonnngndknoljaaWr18e
import Derived.Test.YtonnngndknoljaaRef18b
namespace Go.Proofs.Ytonnngndknoljaa
open Go.ChangeShapes Go.WideShapes Go.ChangeAt Go.RowKit
set_option linter.unusedSimpArgs false
set_option linter.unusedVariables false

theorem build_mk (k : Int) (f t : Int) (x y z : Int) (am ab : Option Addr) (M cm n cb : Nat) (c : Int) (w : World) : (Instr.build 28 #[(0, .int .i64 k), (1, .int .u32 f), (2, .int .u32 t), (3, .int .i64 x), (4, .int .i64 y), (5, .int .i64 z), (6, .slice am M cm), (7, .int .u64 c), (8, .slice ab n cb)]).run Try.prog w = .ok (.agg ([.int .i64 k, .int .u32 f, .int .u32 t, .int .i64 x, .int .i64 y, .int .i64 z, .slice am M cm, .int .u64 c, .slice ab n cb] : List Value).toArray) w := by kernel_rfl

set_option maxRecDepth 100000 in
set_option maxHeartbeats 4000000 in
theorem model18_any (p : Pkt) (vm vb : Value) (A : Array Value) (hA : A = (pkC p vm vb).toArray) (w : World) (hr : PkR w p vm vb) :
    Calls Try.prog 8 #[.agg A] w fun e w' => e = .returned (.agg (pkC p vm vb).toArray) ∧ Below w.heap.size w w' := by
  obtain ⟨am, cm, rfl, -⟩ := id hr.mac
  obtain ⟨ab, cb, rfl, -⟩ := id hr.body
  obtain ⟨kind, fr, tt, msg, part, parts, mac, ctr, body⟩ := p
  obtain ⟨M, hM⟩ : ∃ n : Nat, n = mac.length := ⟨_, rfl⟩
  obtain ⟨n, hn⟩ : ∃ n : Nat, n = body.length := ⟨_, rfl⟩
  obtain ⟨C, hC⟩ : ∃ C : List Value, C = [.int .i64 kind, .int .u32 (fr : Int), .int .u32 (tt : Int), .int .i64 msg, .int .i64 part, .int .i64 parts, .slice am M cm, .int .u64 (ctr : Int), .slice ab n cb] := ⟨_, rfl⟩
  have hpc : pkC ⟨kind, fr, tt, msg, part, parts, mac, ctr, body⟩ (.slice am mac.length cm) (.slice ab body.length cb) = C := by rw [hC, hM, hn]; rfl
  rw [hpc] at hA ⊢
  have HA : Hid (A = C.toArray) := hA
  have HC : Hid (C = [.int .i64 kind, .int .u32 (fr : Int), .int .u32 (tt : Int), .int .i64 msg, .int .i64 part, .int .i64 parts, .slice am M cm, .int .u64 (ctr : Int), .slice ab n cb]) := hC
  have HL : Hid (C.length = 9) := (by rw [hC]; rfl : C.length = 9)
  clear hr hA hM hn hC hpc
  go_enter Try.func8, Try.ntmps8
  go_wp2_with (refine wpList_box_blk rfl 26 _ rfl C (by rw [← HA.out]; rfl) ?_)
  intro w1 r1 b1 s1
  go_wp2_with (refine wpList_alloc_blk rfl 28 rfl zpk (alloc_pk _) ?_)
  intro w2 r2 b2 s2
  obtain ⟨g, hg⟩ : ∃ n : Nat, n = w.heap.size := ⟨_, rfl⟩
  obtain ⟨gr, hgr⟩ : ∃ n : Nat, n = w1.heap.size := ⟨_, rfl⟩
  rw [← hg] at r1 ⊢
  rw [← hgr] at r2 ⊢
  have q1 := r1.kept b2
  rw [HC.out] at q1
  have c0 : w2.cell? ⟨g, 0, none⟩ = some (.int .i64 kind) := q1.cell 0
  have c1 : w2.cell? ⟨g, 1, none⟩ = some (.int .u32 (fr : Int)) := q1.cell 1
  have c2 : w2.cell? ⟨g, 2, none⟩ = some (.int .u32 (tt : Int)) := q1.cell 2
  have c3 : w2.cell? ⟨g, 3, none⟩ = some (.int .i64 msg) := q1.cell 3
  have c4 : w2.cell? ⟨g, 4, none⟩ = some (.int .i64 part) := q1.cell 4
  have c5 : w2.cell? ⟨g, 5, none⟩ = some (.int .i64 parts) := q1.cell 5
  have c6 : w2.cell? ⟨g, 6, none⟩ = some (.slice am M cm) := q1.cell 6
  have c7 : w2.cell? ⟨g, 7, none⟩ = some (.int .u64 (ctr : Int)) := q1.cell 7
  have c8 : w2.cell? ⟨g, 8, none⟩ = some (.slice ab n cb) := q1.cell 8
  have HB : Hid (Below w.heap.size w w2) := stepB b1 b2
  have HGr : Hid (w.heap.size ≤ gr) := by show _ ≤ _; rw [hgr]; exact b1.size
  have R2 : Hid (BlkAt gr 28 zpk w2) := r2
  clear r1 r2 b1 b2 s1 s2 hg hgr q1
  have HO : Hid (C.toArray.all (·.oneCell') = true) := by show _ = _; rw [HC.out]; exact one_pk ⟨kind, fr, tt, msg, part, parts, mac, ctr, body⟩ am ab M cm n cb
  have HI : Hid ((Try.prog.info? 28).map (·.size) = some C.length) := by show _ = _; rw [HL.out]; exact info_pk
  have hbuild : ∀ W : World, (Instr.build 28 #[(0, .int .i64 kind), (1, .int .u32 (fr : Int)), (2, .int .u32 (tt : Int)), (3, .int .i64 msg), (4, .int .i64 part), (5, .int .i64 parts), (6, .slice am M cm), (7, .int .u64 (ctr : Int)), (8, .slice ab n cb)]).run Try.prog W = .ok (.agg C.toArray) W := fun W => by rw [build_mk, HC.out]
  have HBu : Hid _ := hbuild
  clear hbuild
  go_wp2_with (first | refine wpList_buildB rfl 28 _ rfl #[(0, .int .i64 kind), (1, .int .u32 (fr : Int)), (2, .int .u32 (tt : Int)), (3, .int .i64 msg), (4, .int .i64 part), (5, .int .i64 parts), (6, .slice am M cm), (7, .int .u64 (ctr : Int)), (8, .slice ab n cb)] (by go_simp; done) _ (HBu.out _) ?_ | (refine wpList_store_part rfl 28 _ _ rfl rfl C rfl [] zpk [] C R2.out (by simp) (by simp) rfl (by rw [HL.out]; rfl) info_pk HO.out ?_; intro wz wzr wzw))
  have wzr2 : BlkAt gr 28 C wz := by simpa using wzr
  refine bodyPost_blk rfl rfl rfl wzr2 Try.underlying28 rfl HI.out ?_
  exact ⟨rfl, wzw.below _ _ HGr.out HB.out⟩
end Go.Proofs.Ytonnngndknoljaa
