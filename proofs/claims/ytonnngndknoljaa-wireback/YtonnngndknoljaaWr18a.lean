/- Which packets may be: contracts of package wire, first part. -/
import Derived.Test.YtonnngndknoljaaRef18a
namespace Go.Proofs.Ytonnngndknoljaa
open Go.ChangeShapes Go.WideShapes Go.ChangeAt Go.RowKit
set_option linter.unusedSimpArgs false
set_option linter.unusedVariables false

theorem info_wk : (Try.prog.info? 26).map (·.size) = some 9 := by kernel_rfl
theorem within_is (x lo hi : Int) (r : Bool) (hr : r = decide (lo ≤ x ∧ x ≤ hi)) (w : World) :
    Calls Try.prog 26 #[.int .i64 x, .int .i64 lo, .int .i64 hi] w fun e w' => e = .returned (.bool r) ∧ w' = w := by
  have HR : Hid (r = decide (lo ≤ x ∧ x ≤ hi)) := hr
  clear hr
  by_cases h1 : lo ≤ x
  · have d1 : decide (lo ≤ x) = true := decide_eq_true h1
    have HE : Hid (decide (x ≤ hi) = r) := by show _ = _; rw [HR.out]; simp [h1]
    clear h1
    go_enter Try.func26, Try.ntmps26
    go_wp2
    go_ret
    exact ⟨congrArg (fun b => Ending.returned (.bool b)) HE.out, rfl⟩
  · have d1 : decide (lo ≤ x) = false := decide_eq_false h1
    have HE : Hid (false = r) := by show _ = _; rw [HR.out]; simp [h1]
    clear h1
    go_enter Try.func26, Try.ntmps26
    go_wp2
    go_ret
    exact ⟨congrArg (fun b => Ending.returned (.bool b)) HE.out, rfl⟩
abbrev pieceP (p : Pkt) : Prop := 0 ≤ p.msg ∧ p.msg ≤ 7 ∧ 1 ≤ p.parts ∧ p.parts ≤ 64 ∧ 0 ≤ p.part ∧ p.part < p.parts ∧ 1 ≤ p.body.length ∧ p.body.length ≤ 1024 ∧ (p.body.length = 1024 ∨ p.part + 1 = p.parts)
def pieceB (p : Pkt) : Bool := decide (pieceP p)
def restB (p : Pkt) : Bool := decide (mayR p)
set_option maxRecDepth 100000 in
set_option maxHeartbeats 8000000 in
theorem nopiece_any (p : Pkt) (hw : PkW p) (vm vb : Value) (A : Array Value) (hA : A = (pkC p vm vb).toArray) (w : World) (hr : PkR w p vm vb) :
    Calls Try.prog 25 #[.agg A] w fun e w' => e = .returned (.bool (restB p)) ∧ Below w.heap.size w w' := by
  obtain ⟨am, cm, rfl, -, hm3, -⟩ := id hr.mac
  obtain ⟨ab, cb, rfl, -, hb3, -⟩ := id hr.body
  obtain ⟨kind, fr, tt, msg, part, parts, mac, ctr, body⟩ := p
  obtain ⟨M, hM⟩ : ∃ n : Nat, n = mac.length := ⟨_, rfl⟩
  obtain ⟨n, hn⟩ : ∃ n : Nat, n = body.length := ⟨_, rfl⟩
  obtain ⟨⟨wk1, wk2⟩, wf, wt, ⟨wm1, wm2⟩, ⟨wp1, wp2⟩, ⟨wq1, wq2⟩, wc⟩ := id hw
  simp only at wk1 wk2 wf wt wm1 wm2 wp1 wp2 wq1 wq2 wc
  have HY : Hid (restB ⟨kind, fr, tt, msg, part, parts, mac, ctr, body⟩ = decide (fr = 0 ∧ msg = 0 ∧ part = 0 ∧ parts = 0)) := by subst hM hn; rfl
  generalize restB ⟨kind, fr, tt, msg, part, parts, mac, ctr, body⟩ = r at HY ⊢
  have hA' : A = (pkC ⟨kind, fr, tt, msg, part, parts, mac, ctr, body⟩ (.slice am M cm) (.slice ab n cb)).toArray := by rw [hA, hM, hn]
  have HA : Hid (A = [.int .i64 kind, .int .u32 (fr : Int), .int .u32 (tt : Int), .int .i64 msg, .int .i64 part, .int .i64 parts, .slice am M cm, .int .u64 (ctr : Int), .slice ab n cb].toArray) := hA'
  unfold maxLen at hm3 hb3
  clear hw hr hA hM hn hA'
  go_enter Try.func25, Try.ntmps25
  go_wp2_with (refine wpList_box_blk rfl 26 _ rfl [.int .i64 kind, .int .u32 (fr : Int), .int .u32 (tt : Int), .int .i64 msg, .int .i64 part, .int .i64 parts, .slice am M cm, .int .u64 (ctr : Int), .slice ab n cb] (by rw [← HA.out]; rfl) ?_)
  intro w1 r1 b1 s1
  obtain ⟨g, hg⟩ : ∃ n : Nat, n = w.heap.size := ⟨_, rfl⟩
  rw [← hg] at r1 ⊢
  have c1 : w1.cell? ⟨g, 1, none⟩ = some (.int .u32 (fr : Int)) := r1.cell 1
  have c3 : w1.cell? ⟨g, 3, none⟩ = some (.int .i64 msg) := r1.cell 3
  have c4 : w1.cell? ⟨g, 4, none⟩ = some (.int .i64 part) := r1.cell 4
  have c5 : w1.cell? ⟨g, 5, none⟩ = some (.int .i64 parts) := r1.cell 5
  have HB : Hid (Below w.heap.size w w1) := b1
  clear r1 b1 s1 hg HA
  by_cases h : (fr : Int) = 0
  rotate_left
  · have d : ((fr : Int) == 0) = false := by simpa using h
    have HR : Hid (r = false) := (by rw [HY.out]; exact decide_eq_false (by (try have hpp := HPP.out); omega) : r = false)
    clear HY
    go_wp2
    go_ret
    exact ⟨ret_bool HR.out, HB.out⟩
  have d1 : ((fr : Int) == 0) = true := by simpa using h
  have k1 : (fr : Int) = 0 := h
  clear h
  by_cases h : msg = 0
  rotate_left
  · have d : (msg == 0) = false := by simpa using h
    have HR : Hid (r = false) := (by rw [HY.out]; exact decide_eq_false (by (try have hpp := HPP.out); omega) : r = false)
    clear HY
    go_wp2
    go_ret
    exact ⟨ret_bool HR.out, HB.out⟩
  have d2 : (msg == 0) = true := by simpa using h
  have k2 : msg = 0 := h
  clear h
  by_cases h : part = 0
  rotate_left
  · have d : (part == 0) = false := by simpa using h
    have HR : Hid (r = false) := (by rw [HY.out]; exact decide_eq_false (by (try have hpp := HPP.out); omega) : r = false)
    clear HY
    go_wp2
    go_ret
    exact ⟨ret_bool HR.out, HB.out⟩
  have d3 : (part == 0) = true := by simpa using h
  have k3 : part = 0 := h
  clear h
  by_cases h : parts = 0
  rotate_left
  · have d : (parts == 0) = false := by simpa using h
    have HR : Hid (r = false) := (by rw [HY.out]; exact decide_eq_false (by (try have hpp := HPP.out); omega) : r = false)
    clear HY
    go_wp2
    go_ret
    exact ⟨ret_bool HR.out, HB.out⟩
  have d4 : (parts == 0) = true := by simpa using h
  have k4 : parts = 0 := h
  clear h
  have HR : Hid (r = true) := (by rw [HY.out]; exact decide_eq_true (by (try have hpp := HPP.out); first | omega | exact .inl ⟨by trivial, by omega⟩ | exact .inr (.inl ⟨by trivial, by omega⟩) | exact .inr (.inr (.inl ⟨by trivial, by omega⟩)) | exact .inr (.inr (.inr ⟨by trivial, by omega⟩))) : r = true)
  clear HY
  go_wp2
  go_ret
  exact ⟨ret_bool HR.out, HB.out⟩
set_option maxRecDepth 100000 in
set_option maxHeartbeats 8000000 in
theorem piece_any (p : Pkt) (hw : PkW p) (vm vb : Value) (A : Array Value) (hA : A = (pkC p vm vb).toArray) (w : World) (hr : PkR w p vm vb) :
    Calls Try.prog 24 #[.agg A] w fun e w' => e = .returned (.bool (pieceB p)) ∧ Below w.heap.size w w' := by
  obtain ⟨am, cm, rfl, -, hm3, -⟩ := id hr.mac
  obtain ⟨ab, cb, rfl, -, hb3, -⟩ := id hr.body
  obtain ⟨kind, fr, tt, msg, part, parts, mac, ctr, body⟩ := p
  obtain ⟨M, hM⟩ : ∃ n : Nat, n = mac.length := ⟨_, rfl⟩
  obtain ⟨n, hn⟩ : ∃ n : Nat, n = body.length := ⟨_, rfl⟩
  obtain ⟨⟨wk1, wk2⟩, wf, wt, ⟨wm1, wm2⟩, ⟨wp1, wp2⟩, ⟨wq1, wq2⟩, wc⟩ := id hw
  simp only at wk1 wk2 wf wt wm1 wm2 wp1 wp2 wq1 wq2 wc
  have HY : Hid (pieceB ⟨kind, fr, tt, msg, part, parts, mac, ctr, body⟩ = decide (0 ≤ msg ∧ msg ≤ 7 ∧ 1 ≤ parts ∧ parts ≤ 64 ∧ 0 ≤ part ∧ part < parts ∧ 1 ≤ n ∧ n ≤ 1024 ∧ (n = 1024 ∨ part + 1 = parts))) := by subst hM hn; rfl
  generalize pieceB ⟨kind, fr, tt, msg, part, parts, mac, ctr, body⟩ = r at HY ⊢
  have hA' : A = (pkC ⟨kind, fr, tt, msg, part, parts, mac, ctr, body⟩ (.slice am M cm) (.slice ab n cb)).toArray := by rw [hA, hM, hn]
  have HA : Hid (A = [.int .i64 kind, .int .u32 (fr : Int), .int .u32 (tt : Int), .int .i64 msg, .int .i64 part, .int .i64 parts, .slice am M cm, .int .u64 (ctr : Int), .slice ab n cb].toArray) := hA'
  unfold maxLen at hm3 hb3
  clear hw hr hA hM hn hA'
  go_enter Try.func24, Try.ntmps24
  go_wp2_with (refine wpList_box_blk rfl 26 _ rfl [.int .i64 kind, .int .u32 (fr : Int), .int .u32 (tt : Int), .int .i64 msg, .int .i64 part, .int .i64 parts, .slice am M cm, .int .u64 (ctr : Int), .slice ab n cb] (by rw [← HA.out]; rfl) ?_)
  intro w1 r1 b1 s1
  obtain ⟨g, hg⟩ : ∃ n : Nat, n = w.heap.size := ⟨_, rfl⟩
  rw [← hg] at r1 ⊢
  have c3 : w1.cell? ⟨g, 3, none⟩ = some (.int .i64 msg) := r1.cell 3
  have c4 : w1.cell? ⟨g, 4, none⟩ = some (.int .i64 part) := r1.cell 4
  have c5 : w1.cell? ⟨g, 5, none⟩ = some (.int .i64 parts) := r1.cell 5
  have c8 : w1.cell? ⟨g, 8, none⟩ = some (.slice ab n cb) := r1.cell 8
  have HB : Hid (Below w.heap.size w w1) := b1
  clear r1 b1 s1 hg HA
  by_cases h : 0 ≤ msg ∧ msg ≤ 7
  rotate_left
  · go_wp2_with fail
    refine (within_is msg _ _ false (decide_eq_false h).symm _).mono ?_
    rintro e w2 ⟨rfl, rfl⟩
    have HR : Hid (r = false) := (by rw [HY.out]; exact decide_eq_false (by (try have hpp := HPP.out); omega) : r = false)
    clear HY
    go_wp2
    go_ret
    exact ⟨ret_bool HR.out, HB.out⟩
  go_wp2_with fail
  refine (within_is msg _ _ true (decide_eq_true h).symm _).mono ?_
  rintro e w2 ⟨rfl, rfl⟩
  have k101 : 0 ≤ msg ∧ msg ≤ 7 := h
  clear h
  by_cases h : 1 ≤ parts ∧ parts ≤ 64
  rotate_left
  · go_wp2_with fail
    refine (within_is parts _ _ false (decide_eq_false h).symm _).mono ?_
    rintro e w2 ⟨rfl, rfl⟩
    have HR : Hid (r = false) := (by rw [HY.out]; exact decide_eq_false (by (try have hpp := HPP.out); omega) : r = false)
    clear HY
    go_wp2
    go_ret
    exact ⟨ret_bool HR.out, HB.out⟩
  go_wp2_with fail
  refine (within_is parts _ _ true (decide_eq_true h).symm _).mono ?_
  rintro e w2 ⟨rfl, rfl⟩
  have k102 : 1 ≤ parts ∧ parts ≤ 64 := h
  clear h
  have hwr : IntKind.i64.wrap (parts - 1) = parts - 1 := by rw [IntKind.wrap_i64]; omega
  by_cases h : 0 ≤ part ∧ part ≤ parts - 1
  rotate_left
  · go_wp2_with fail
    refine (within_is part _ _ false (decide_eq_false h).symm _).mono ?_
    rintro e w2 ⟨rfl, rfl⟩
    have HR : Hid (r = false) := (by rw [HY.out]; exact decide_eq_false (by (try have hpp := HPP.out); omega) : r = false)
    clear HY
    go_wp2
    go_ret
    exact ⟨ret_bool HR.out, HB.out⟩
  go_wp2_with fail
  refine (within_is part _ _ true (decide_eq_true h).symm _).mono ?_
  rintro e w2 ⟨rfl, rfl⟩
  have k103 : 0 ≤ part ∧ part ≤ parts - 1 := h
  clear h
  by_cases h : part = parts - 1
  · have d : (part == parts - 1) = true := by simpa using h
    by_cases h2 : (1 : Int) ≤ (n : Int) ∧ (n : Int) ≤ 1024
    rotate_left
    · have kk := h2
      go_wp2_with fail
      refine (within_is (n : Int) _ _ false (decide_eq_false h2).symm _).mono ?_
      rintro e w2 ⟨rfl, rfl⟩
      have HR : Hid (r = false) := (by rw [HY.out]; exact decide_eq_false (by (try have hpp := HPP.out); omega) : r = false)
      clear HY
      go_wp2
      go_ret
      exact ⟨ret_bool HR.out, HB.out⟩
    go_wp2_with fail
    refine (within_is (n : Int) _ _ true (decide_eq_true h2).symm _).mono ?_
    rintro e w2 ⟨rfl, rfl⟩
    have HR : Hid (r = true) := (by rw [HY.out]; exact decide_eq_true (by (try have hpp := HPP.out); first | omega | exact .inl ⟨by trivial, by omega⟩ | exact .inr (.inl ⟨by trivial, by omega⟩) | exact .inr (.inr (.inl ⟨by trivial, by omega⟩)) | exact .inr (.inr (.inr ⟨by trivial, by omega⟩))) : r = true)
    clear HY
    go_wp2
    go_ret
    exact ⟨ret_bool HR.out, HB.out⟩
  have d : (part == parts - 1) = false := by simpa using h
  by_cases h2 : (1024 : Int) ≤ (n : Int) ∧ (n : Int) ≤ 1024
  rotate_left
  · have kk := h2
    go_wp2_with fail
    refine (within_is (n : Int) _ _ false (decide_eq_false h2).symm _).mono ?_
    rintro e w2 ⟨rfl, rfl⟩
    have HR : Hid (r = false) := (by rw [HY.out]; exact decide_eq_false (by (try have hpp := HPP.out); omega) : r = false)
    clear HY
    go_wp2
    go_ret
    exact ⟨ret_bool HR.out, HB.out⟩
  go_wp2_with fail
  refine (within_is (n : Int) _ _ true (decide_eq_true h2).symm _).mono ?_
  rintro e w2 ⟨rfl, rfl⟩
  have HR : Hid (r = true) := (by rw [HY.out]; exact decide_eq_true (by (try have hpp := HPP.out); first | omega | exact .inl ⟨by trivial, by omega⟩ | exact .inr (.inl ⟨by trivial, by omega⟩) | exact .inr (.inr (.inl ⟨by trivial, by omega⟩)) | exact .inr (.inr (.inr ⟨by trivial, by omega⟩))) : r = true)
  clear HY
  go_wp2
  go_ret
  exact ⟨ret_bool HR.out, HB.out⟩
set_option maxRecDepth 100000 in
set_option maxHeartbeats 8000000 in
theorem maybe_any (p : Pkt) (hw : PkW p) (vm vb : Value) (A : Array Value) (hA : A = (pkC p vm vb).toArray) (w : World) (hr : PkR w p vm vb) :
    Calls Try.prog 17 #[.agg A] w fun e w' => e = .returned (.bool (mayB p)) ∧ Below w.heap.size w w' := by
  obtain ⟨am, cm, rfl, -, hm3, -⟩ := id hr.mac
  obtain ⟨ab, cb, rfl, -, hb3, -⟩ := id hr.body
  obtain ⟨kind, fr, tt, msg, part, parts, mac, ctr, body⟩ := p
  obtain ⟨M, hM⟩ : ∃ n : Nat, n = mac.length := ⟨_, rfl⟩
  obtain ⟨n, hn⟩ : ∃ n : Nat, n = body.length := ⟨_, rfl⟩
  obtain ⟨⟨wk1, wk2⟩, wf, wt, ⟨wm1, wm2⟩, ⟨wp1, wp2⟩, ⟨wq1, wq2⟩, wc⟩ := id hw
  simp only at wk1 wk2 wf wt wm1 wm2 wp1 wp2 wq1 wq2 wc
  have HY : Hid (mayB ⟨kind, fr, tt, msg, part, parts, mac, ctr, body⟩ = decide ((kind = 1 ∧ 0 ≤ msg ∧ msg ≤ 7 ∧ 1 ≤ parts ∧ parts ≤ 64 ∧ 0 ≤ part ∧ part < parts ∧ M = 16 ∧ ctr = 0 ∧ 1 ≤ n ∧ n ≤ 1024 ∧ (n = 1024 ∨ part + 1 = parts)) ∨ (kind = 2 ∧ (fr = 0 ∧ msg = 0 ∧ part = 0 ∧ parts = 0) ∧ M = 16 ∧ ctr = 0 ∧ n = 0) ∨ (kind = 3 ∧ (fr = 0 ∧ msg = 0 ∧ part = 0 ∧ parts = 0) ∧ M = 0 ∧ 16 ≤ n ∧ n ≤ 1187) ∨ (kind = 4 ∧ (fr = 0 ∧ msg = 0 ∧ part = 0 ∧ parts = 0) ∧ M = 0 ∧ n = 16))) := by subst hM hn; rfl
  generalize mayB ⟨kind, fr, tt, msg, part, parts, mac, ctr, body⟩ = r at HY ⊢
  have hA' : A = (pkC ⟨kind, fr, tt, msg, part, parts, mac, ctr, body⟩ (.slice am M cm) (.slice ab n cb)).toArray := by rw [hA, hM, hn]
  have HA : Hid (A = [.int .i64 kind, .int .u32 (fr : Int), .int .u32 (tt : Int), .int .i64 msg, .int .i64 part, .int .i64 parts, .slice am M cm, .int .u64 (ctr : Int), .slice ab n cb].toArray) := hA'
  have HP : Hid (PkR w ⟨kind, fr, tt, msg, part, parts, mac, ctr, body⟩ (.slice am M cm) (.slice ab n cb)) := (by rw [hM, hn]; exact hr : PkR w ⟨kind, fr, tt, msg, part, parts, mac, ctr, body⟩ (.slice am M cm) (.slice ab n cb))
  have HW : Hid (PkW ⟨kind, fr, tt, msg, part, parts, mac, ctr, body⟩) := hw
  have HM : Hid (M = mac.length ∧ n = body.length) := ⟨hM, hn⟩
  unfold maxLen at hm3 hb3
  clear hw hr hA hM hn hA'
  go_enter Try.func17, Try.ntmps17
  go_wp2_with (refine wpList_box_blk rfl 26 _ rfl [.int .i64 kind, .int .u32 (fr : Int), .int .u32 (tt : Int), .int .i64 msg, .int .i64 part, .int .i64 parts, .slice am M cm, .int .u64 (ctr : Int), .slice ab n cb] (by rw [← HA.out]; rfl) ?_)
  intro w1 r1 b1 s1
  obtain ⟨g, hg⟩ : ∃ n : Nat, n = w.heap.size := ⟨_, rfl⟩
  rw [← hg] at r1 ⊢
  have HB : Hid (Below w.heap.size w w1) := b1
  have R1 : Hid (BlkAt g 26 (pkC ⟨kind, fr, tt, msg, part, parts, mac, ctr, body⟩ (.slice am M cm) (.slice ab n cb)) w1) := r1
  have HP1 : Hid (PkR w1 ⟨kind, fr, tt, msg, part, parts, mac, ctr, body⟩ (.slice am M cm) (.slice ab n cb)) := HP.out.kept b1
  have hcx : ∀ W, Below w1.heap.size w1 W → W.cell? ⟨g, 0, none⟩ = some (.int .i64 kind) ∧ W.cell? ⟨g, 6, none⟩ = some (.slice am M cm) ∧ W.cell? ⟨g, 7, none⟩ = some (.int .u64 (ctr : Int)) ∧ W.cell? ⟨g, 8, none⟩ = some (.slice ab n cb) := fun W hW => by
    have q := r1.kept hW
    exact ⟨q.cell 0, q.cell 6, q.cell 7, q.cell 8⟩
  have HC : Hid (∀ W, Below w1.heap.size w1 W → W.cell? ⟨g, 0, none⟩ = some (.int .i64 kind) ∧ W.cell? ⟨g, 6, none⟩ = some (.slice am M cm) ∧ W.cell? ⟨g, 7, none⟩ = some (.int .u64 (ctr : Int)) ∧ W.cell? ⟨g, 8, none⟩ = some (.slice ab n cb)) := hcx
  have c0 : w1.cell? ⟨g, 0, none⟩ = some (.int .i64 kind) := r1.cell 0
  have c8 : w1.cell? ⟨g, 8, none⟩ = some (.slice ab n cb) := r1.cell 8
  clear r1 b1 s1 hg HA hcx HP
  by_cases hk : kind = 1
  · subst hk
    have dk : ((1 : Int) == 1) = true := by decide
    by_cases hp : 0 ≤ msg ∧ msg ≤ 7 ∧ 1 ≤ parts ∧ parts ≤ 64 ∧ 0 ≤ part ∧ part < parts ∧ 1 ≤ n ∧ n ≤ 1024 ∧ (n = 1024 ∨ part + 1 = parts)
    rotate_left
    · have hq : pieceB ⟨1, fr, tt, msg, part, parts, mac, ctr, body⟩ = false := decide_eq_false (by have := HM.out; unfold pieceP; simp only; omega)
      have HR : Hid (r = false) := (by rw [HY.out]; exact decide_eq_false (by omega) : r = false)
      clear hp HY
      go_wp2_with (refine wpList_load_part rfl 26 _ rfl rfl [] (pkC ⟨1, fr, tt, msg, part, parts, mac, ctr, body⟩ (.slice am M cm) (.slice ab n cb)) [] R1.out (by simp) rfl Try.underlying26 rfl info_wk ?_)
      refine (piece_any _ HW.out _ _ _ rfl _ HP1.out).mono ?_
      rintro e w2 ⟨rfl, b2⟩
      obtain ⟨e0, e6, e7, e8⟩ := HC.out w2 b2
      replace HB : Hid (Below w.heap.size w w2) := stepB HB.out b2
      clear c0 c8 b2
      rw [hq]
      clear hq
      go_wp2
      go_ret
      exact ⟨ret_bool HR.out, HB.out⟩
    have hq : pieceB ⟨1, fr, tt, msg, part, parts, mac, ctr, body⟩ = true := decide_eq_true (by have := HM.out; unfold pieceP; simp only; omega)
    have HPP : Hid (0 ≤ msg ∧ msg ≤ 7 ∧ 1 ≤ parts ∧ parts ≤ 64 ∧ 0 ≤ part ∧ part < parts ∧ 1 ≤ n ∧ n ≤ 1024 ∧ (n = 1024 ∨ part + 1 = parts)) := hp
    clear hp
    go_wp2_with (refine wpList_load_part rfl 26 _ rfl rfl [] (pkC ⟨1, fr, tt, msg, part, parts, mac, ctr, body⟩ (.slice am M cm) (.slice ab n cb)) [] R1.out (by simp) rfl Try.underlying26 rfl info_wk ?_)
    refine (piece_any _ HW.out _ _ _ rfl _ HP1.out).mono ?_
    rintro e w2 ⟨rfl, b2⟩
    obtain ⟨e0, e6, e7, e8⟩ := HC.out w2 b2
    replace HB : Hid (Below w.heap.size w w2) := stepB HB.out b2
    clear c0 c8 b2
    rw [hq]
    clear hq
    by_cases h : (M : Int) = 16
    rotate_left
    · have d : ((M : Int) == 16) = false := by simpa using h
      have HR : Hid (r = false) := (by rw [HY.out]; exact decide_eq_false (by (try have hpp := HPP.out); omega) : r = false)
      clear HY
      go_wp2
      go_ret
      exact ⟨ret_bool HR.out, HB.out⟩
    have d5 : ((M : Int) == 16) = true := by simpa using h
    have k5 : (M : Int) = 16 := h
    clear h
    by_cases h : (ctr : Int) = 0
    rotate_left
    · have d : ((ctr : Int) == 0) = false := by simpa using h
      have HR : Hid (r = false) := (by rw [HY.out]; exact decide_eq_false (by (try have hpp := HPP.out); omega) : r = false)
      clear HY
      go_wp2
      go_ret
      exact ⟨ret_bool HR.out, HB.out⟩
    have d6 : ((ctr : Int) == 0) = true := by simpa using h
    have k6 : (ctr : Int) = 0 := h
    clear h
    have HR : Hid (r = true) := (by rw [HY.out]; exact decide_eq_true (by (try have hpp := HPP.out); first | omega | exact .inl ⟨by trivial, by omega⟩ | exact .inr (.inl ⟨by trivial, by omega⟩) | exact .inr (.inr (.inl ⟨by trivial, by omega⟩)) | exact .inr (.inr (.inr ⟨by trivial, by omega⟩))) : r = true)
    clear HY
    go_wp2
    go_ret
    exact ⟨ret_bool HR.out, HB.out⟩
  have dk1 : (kind == 1) = false := by simpa using hk
  by_cases hk2 : kind = 2
  · subst hk2
    have dk : ((2 : Int) == 2) = true := by decide
    by_cases hp : fr = 0 ∧ msg = 0 ∧ part = 0 ∧ parts = 0
    rotate_left
    · have hq : restB ⟨2, fr, tt, msg, part, parts, mac, ctr, body⟩ = false := decide_eq_false (by have := HM.out; unfold mayR; simp only; omega)
      have HR : Hid (r = false) := (by rw [HY.out]; exact decide_eq_false (by omega) : r = false)
      clear hp HY
      go_wp2_with (refine wpList_load_part rfl 26 _ rfl rfl [] (pkC ⟨2, fr, tt, msg, part, parts, mac, ctr, body⟩ (.slice am M cm) (.slice ab n cb)) [] R1.out (by simp) rfl Try.underlying26 rfl info_wk ?_)
      refine (nopiece_any _ HW.out _ _ _ rfl _ HP1.out).mono ?_
      rintro e w2 ⟨rfl, b2⟩
      obtain ⟨e0, e6, e7, e8⟩ := HC.out w2 b2
      replace HB : Hid (Below w.heap.size w w2) := stepB HB.out b2
      clear c0 c8 b2
      rw [hq]
      clear hq
      go_wp2
      go_ret
      exact ⟨ret_bool HR.out, HB.out⟩
    have hq : restB ⟨2, fr, tt, msg, part, parts, mac, ctr, body⟩ = true := decide_eq_true (by have := HM.out; unfold mayR; simp only; omega)
    have HPP : Hid (fr = 0 ∧ msg = 0 ∧ part = 0 ∧ parts = 0) := hp
    clear hp
    go_wp2_with (refine wpList_load_part rfl 26 _ rfl rfl [] (pkC ⟨2, fr, tt, msg, part, parts, mac, ctr, body⟩ (.slice am M cm) (.slice ab n cb)) [] R1.out (by simp) rfl Try.underlying26 rfl info_wk ?_)
    refine (nopiece_any _ HW.out _ _ _ rfl _ HP1.out).mono ?_
    rintro e w2 ⟨rfl, b2⟩
    obtain ⟨e0, e6, e7, e8⟩ := HC.out w2 b2
    replace HB : Hid (Below w.heap.size w w2) := stepB HB.out b2
    clear c0 c8 b2
    rw [hq]
    clear hq
    by_cases h : (M : Int) = 16
    rotate_left
    · have d : ((M : Int) == 16) = false := by simpa using h
      have HR : Hid (r = false) := (by rw [HY.out]; exact decide_eq_false (by (try have hpp := HPP.out); omega) : r = false)
      clear HY
      go_wp2
      go_ret
      exact ⟨ret_bool HR.out, HB.out⟩
    have d7 : ((M : Int) == 16) = true := by simpa using h
    have k7 : (M : Int) = 16 := h
    clear h
    by_cases h : (ctr : Int) = 0
    rotate_left
    · have d : ((ctr : Int) == 0) = false := by simpa using h
      have HR : Hid (r = false) := (by rw [HY.out]; exact decide_eq_false (by (try have hpp := HPP.out); omega) : r = false)
      clear HY
      go_wp2
      go_ret
      exact ⟨ret_bool HR.out, HB.out⟩
    have d8 : ((ctr : Int) == 0) = true := by simpa using h
    have k8 : (ctr : Int) = 0 := h
    clear h
    by_cases h : (n : Int) = 0
    rotate_left
    · have d : ((n : Int) == 0) = false := by simpa using h
      have HR : Hid (r = false) := (by rw [HY.out]; exact decide_eq_false (by (try have hpp := HPP.out); omega) : r = false)
      clear HY
      go_wp2
      go_ret
      exact ⟨ret_bool HR.out, HB.out⟩
    have d9 : ((n : Int) == 0) = true := by simpa using h
    have k9 : (n : Int) = 0 := h
    clear h
    have HR : Hid (r = true) := (by rw [HY.out]; exact decide_eq_true (by (try have hpp := HPP.out); first | omega | exact .inl ⟨by trivial, by omega⟩ | exact .inr (.inl ⟨by trivial, by omega⟩) | exact .inr (.inr (.inl ⟨by trivial, by omega⟩)) | exact .inr (.inr (.inr ⟨by trivial, by omega⟩))) : r = true)
    clear HY
    go_wp2
    go_ret
    exact ⟨ret_bool HR.out, HB.out⟩
  have dk2 : (kind == 2) = false := by simpa using hk2
  by_cases hk4 : kind = 4
  · subst hk4
    have dk : ((4 : Int) == 4) = true := by decide
    by_cases h16 : (16 : Int) < (n : Int)
    · have d : decide ((16 : Int) < (n : Int)) = true := decide_eq_true h16
      have HR : Hid (r = false) := (by rw [HY.out]; exact decide_eq_false (by (try have hpp := HPP.out); omega) : r = false)
      clear HY
      go_wp2
      go_ret
      exact ⟨ret_bool HR.out, HB.out⟩
    have d16 : decide ((16 : Int) < (n : Int)) = false := decide_eq_false h16
    by_cases hp : fr = 0 ∧ msg = 0 ∧ part = 0 ∧ parts = 0
    rotate_left
    · have hq : restB ⟨4, fr, tt, msg, part, parts, mac, ctr, body⟩ = false := decide_eq_false (by unfold mayR; simp only; omega)
      have HR : Hid (r = false) := (by rw [HY.out]; exact decide_eq_false (by omega) : r = false)
      clear hp HY
      go_wp2_with (refine wpList_load_part rfl 26 _ rfl rfl [] (pkC ⟨4, fr, tt, msg, part, parts, mac, ctr, body⟩ (.slice am M cm) (.slice ab n cb)) [] R1.out (by simp) rfl Try.underlying26 rfl info_wk ?_)
      refine (nopiece_any _ HW.out _ _ _ rfl _ HP1.out).mono ?_
      rintro e w2 ⟨rfl, b2⟩
      obtain ⟨e0, e6, e7, e8⟩ := HC.out w2 b2
      replace HB : Hid (Below w.heap.size w w2) := stepB HB.out b2
      clear c0 c8 b2
      rw [hq]
      clear hq
      go_wp2
      go_ret
      exact ⟨ret_bool HR.out, HB.out⟩
    have hq : restB ⟨4, fr, tt, msg, part, parts, mac, ctr, body⟩ = true := decide_eq_true (by unfold mayR; simp only; omega)
    have HPP : Hid (fr = 0 ∧ msg = 0 ∧ part = 0 ∧ parts = 0) := hp
    clear hp
    go_wp2_with (refine wpList_load_part rfl 26 _ rfl rfl [] (pkC ⟨4, fr, tt, msg, part, parts, mac, ctr, body⟩ (.slice am M cm) (.slice ab n cb)) [] R1.out (by simp) rfl Try.underlying26 rfl info_wk ?_)
    refine (nopiece_any _ HW.out _ _ _ rfl _ HP1.out).mono ?_
    rintro e w2 ⟨rfl, b2⟩
    obtain ⟨e0, e6, e7, e8⟩ := HC.out w2 b2
    replace HB : Hid (Below w.heap.size w w2) := stepB HB.out b2
    clear c0 c8 b2
    rw [hq]
    clear hq
    by_cases h : (M : Int) = 0
    rotate_left
    · have d : ((M : Int) == 0) = false := by simpa using h
      have HR : Hid (r = false) := (by rw [HY.out]; exact decide_eq_false (by (try have hpp := HPP.out); omega) : r = false)
      clear HY
      go_wp2
      go_ret
      exact ⟨ret_bool HR.out, HB.out⟩
    have d10 : ((M : Int) == 0) = true := by simpa using h
    have k10 : (M : Int) = 0 := h
    clear h
    by_cases h2 : (16 : Int) ≤ (n : Int) ∧ (n : Int) ≤ 1187
    rotate_left
    · have kk := h2
      go_wp2_with fail
      refine (within_is (n : Int) _ _ false (decide_eq_false h2).symm _).mono ?_
      rintro e w3 ⟨rfl, rfl⟩
      have HR : Hid (r = false) := (by rw [HY.out]; exact decide_eq_false (by (try have hpp := HPP.out); omega) : r = false)
      clear HY
      go_wp2
      go_ret
      exact ⟨ret_bool HR.out, HB.out⟩
    have kk := h2
    go_wp2_with fail
    refine (within_is (n : Int) _ _ true (decide_eq_true h2).symm _).mono ?_
    rintro e w3 ⟨rfl, rfl⟩
    have HR : Hid (r = true) := (by rw [HY.out]; exact decide_eq_true (by (try have hpp := HPP.out); first | omega | exact .inl ⟨by trivial, by omega⟩ | exact .inr (.inl ⟨by trivial, by omega⟩) | exact .inr (.inr (.inl ⟨by trivial, by omega⟩)) | exact .inr (.inr (.inr ⟨by trivial, by omega⟩))) : r = true)
    clear HY
    go_wp2
    go_ret
    exact ⟨ret_bool HR.out, HB.out⟩
  have dk4 : (kind == 4) = false := by simpa using hk4
  by_cases hk3 : kind = 3
  · subst hk3
    have dk : ((3 : Int) == 3) = true := by decide
    by_cases hp : fr = 0 ∧ msg = 0 ∧ part = 0 ∧ parts = 0
    rotate_left
    · have hq : restB ⟨3, fr, tt, msg, part, parts, mac, ctr, body⟩ = false := decide_eq_false (by unfold mayR; simp only; omega)
      have HR : Hid (r = false) := (by rw [HY.out]; exact decide_eq_false (by omega) : r = false)
      clear hp HY
      go_wp2_with (refine wpList_load_part rfl 26 _ rfl rfl [] (pkC ⟨3, fr, tt, msg, part, parts, mac, ctr, body⟩ (.slice am M cm) (.slice ab n cb)) [] R1.out (by simp) rfl Try.underlying26 rfl info_wk ?_)
      refine (nopiece_any _ HW.out _ _ _ rfl _ HP1.out).mono ?_
      rintro e w2 ⟨rfl, b2⟩
      obtain ⟨e0, e6, e7, e8⟩ := HC.out w2 b2
      replace HB : Hid (Below w.heap.size w w2) := stepB HB.out b2
      clear c0 c8 b2
      rw [hq]
      clear hq
      go_wp2
      go_ret
      exact ⟨ret_bool HR.out, HB.out⟩
    have hq : restB ⟨3, fr, tt, msg, part, parts, mac, ctr, body⟩ = true := decide_eq_true (by unfold mayR; simp only; omega)
    have HPP : Hid (fr = 0 ∧ msg = 0 ∧ part = 0 ∧ parts = 0) := hp
    clear hp
    go_wp2_with (refine wpList_load_part rfl 26 _ rfl rfl [] (pkC ⟨3, fr, tt, msg, part, parts, mac, ctr, body⟩ (.slice am M cm) (.slice ab n cb)) [] R1.out (by simp) rfl Try.underlying26 rfl info_wk ?_)
    refine (nopiece_any _ HW.out _ _ _ rfl _ HP1.out).mono ?_
    rintro e w2 ⟨rfl, b2⟩
    obtain ⟨e0, e6, e7, e8⟩ := HC.out w2 b2
    replace HB : Hid (Below w.heap.size w w2) := stepB HB.out b2
    clear c0 c8 b2
    rw [hq]
    clear hq
    by_cases h : (M : Int) = 0
    rotate_left
    · have d : ((M : Int) == 0) = false := by simpa using h
      have HR : Hid (r = false) := (by rw [HY.out]; exact decide_eq_false (by (try have hpp := HPP.out); omega) : r = false)
      clear HY
      go_wp2
      go_ret
      exact ⟨ret_bool HR.out, HB.out⟩
    have d11 : ((M : Int) == 0) = true := by simpa using h
    have k11 : (M : Int) = 0 := h
    clear h
    by_cases h2 : (16 : Int) ≤ (n : Int) ∧ (n : Int) ≤ 1187
    rotate_left
    · have kk := h2
      go_wp2_with fail
      refine (within_is (n : Int) _ _ false (decide_eq_false h2).symm _).mono ?_
      rintro e w3 ⟨rfl, rfl⟩
      have HR : Hid (r = false) := (by rw [HY.out]; exact decide_eq_false (by (try have hpp := HPP.out); omega) : r = false)
      clear HY
      go_wp2
      go_ret
      exact ⟨ret_bool HR.out, HB.out⟩
    have kk := h2
    go_wp2_with fail
    refine (within_is (n : Int) _ _ true (decide_eq_true h2).symm _).mono ?_
    rintro e w3 ⟨rfl, rfl⟩
    have HR : Hid (r = true) := (by rw [HY.out]; exact decide_eq_true (by (try have hpp := HPP.out); first | omega | exact .inl ⟨by trivial, by omega⟩ | exact .inr (.inl ⟨by trivial, by omega⟩) | exact .inr (.inr (.inl ⟨by trivial, by omega⟩)) | exact .inr (.inr (.inr ⟨by trivial, by omega⟩))) : r = true)
    clear HY
    go_wp2
    go_ret
    exact ⟨ret_bool HR.out, HB.out⟩
  have dk3 : (kind == 3) = false := by simpa using hk3
  have HR : Hid (r = false) := (by rw [HY.out]; exact decide_eq_false (by (try have hpp := HPP.out); omega) : r = false)
  clear HY
  go_wp2
  go_ret
  exact ⟨ret_bool HR.out, HB.out⟩
end Go.Proofs.Ytonnngndknoljaa
