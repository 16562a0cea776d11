/- Whether a packet may be, and whether two are the same: contracts of the reference of layer 18, first part. -/
import Derived.Test.YtonnngndknoljaaWrMath
import Derived.Test.YtonnngndknoljaaRef01j
import Derived.Test.YtonnngndknoljaaBlk
import Derived.Deep.QuietTactic
import Derived.BigQuiet
import Derived.WalkSpells
import Derived.RegionTactic
import Derived.BigRegion
namespace Go.Proofs.Ytonnngndknoljaa
open Go.ChangeShapes Go.WideShapes Go.ChangeAt Go.RowKit
set_option linter.unusedSimpArgs false
set_option linter.unusedVariables false

/-- A packet's cells. -/
def pkC (p : Pkt) (vm vb : Value) : List Value := [.int .i64 p.kind, .int .u32 (p.fr : Int), .int .u32 (p.tt : Int), .int .i64 p.msg, .int .i64 p.part, .int .i64 p.parts, vm, .int .u64 (p.ctr : Int), vb]
/-- .. and its rows. -/
structure PkR (w : World) (p : Pkt) (vm vb : Value) : Prop where
  mac : Rd w vm p.mac
  body : Rd w vb p.body
theorem PkR.kept {w w' : World} {p : Pkt} {vm vb : Value} (h : PkR w p vm vb) (hb : Below w.heap.size w w') : PkR w' p vm vb := ⟨h.mac.kept hb, h.body.kept hb⟩
theorem ret_bool {b c : Bool} (h : c = b) : Ending.returned (.bool b) = Ending.returned (.bool c) := by rw [h]

set_option maxRecDepth 100000 in
set_option maxHeartbeats 8000000 in
theorem may18_any (p : Pkt) (vm vb : Value) (A : Array Value) (hA : A = (pkC p vm vb).toArray) (w : World) (hr : PkR w p vm vb) :
    Calls Try.prog 10 #[.agg A] w fun e w' => e = .returned (.bool (mayB p)) ∧ Below w.heap.size w w' := by
  obtain ⟨am, cm, rfl, -, hm3, -⟩ := id hr.mac
  obtain ⟨ab, cb, rfl, -, hb3, -⟩ := id hr.body
  obtain ⟨kind, fr, tt, msg, part, parts, mac, ctr, body⟩ := p
  obtain ⟨M, hM⟩ : ∃ n : Nat, n = mac.length := ⟨_, rfl⟩
  obtain ⟨n, hn⟩ : ∃ n : Nat, n = body.length := ⟨_, rfl⟩
  have HY : Hid (mayB ⟨kind, fr, tt, msg, part, parts, mac, ctr, body⟩ = decide ((kind = 1 ∧ 0 ≤ msg ∧ msg ≤ 7 ∧ 1 ≤ parts ∧ parts ≤ 64 ∧ 0 ≤ part ∧ part < parts ∧ M = 16 ∧ ctr = 0 ∧ 1 ≤ n ∧ n ≤ 1024 ∧ (n = 1024 ∨ part + 1 = parts)) ∨ (kind = 2 ∧ (fr = 0 ∧ msg = 0 ∧ part = 0 ∧ parts = 0) ∧ M = 16 ∧ ctr = 0 ∧ n = 0) ∨ (kind = 3 ∧ (fr = 0 ∧ msg = 0 ∧ part = 0 ∧ parts = 0) ∧ M = 0 ∧ 16 ≤ n ∧ n ≤ 1187) ∨ (kind = 4 ∧ (fr = 0 ∧ msg = 0 ∧ part = 0 ∧ parts = 0) ∧ M = 0 ∧ n = 16))) := by subst hM hn; rfl
  generalize mayB ⟨kind, fr, tt, msg, part, parts, mac, ctr, body⟩ = r at HY ⊢
  have hA' : A = (pkC ⟨kind, fr, tt, msg, part, parts, mac, ctr, body⟩ (.slice am M cm) (.slice ab n cb)).toArray := by rw [hA, hM, hn]
  have HA : Hid (A = [.int .i64 kind, .int .u32 (fr : Int), .int .u32 (tt : Int), .int .i64 msg, .int .i64 part, .int .i64 parts, .slice am M cm, .int .u64 (ctr : Int), .slice ab n cb].toArray) := hA'
  unfold maxLen at hm3 hb3
  clear hr hA hM hn hA'
  go_enter Try.func10, Try.ntmps10
  go_wp2_with (refine wpList_box_blk rfl 28 _ rfl [.int .i64 kind, .int .u32 (fr : Int), .int .u32 (tt : Int), .int .i64 msg, .int .i64 part, .int .i64 parts, .slice am M cm, .int .u64 (ctr : Int), .slice ab n cb] (by rw [← HA.out]; rfl) ?_)
  intro w1 r1 b1 s1
  have c0 : w1.cell? ⟨w.heap.size, 0, none⟩ = some (.int .i64 kind) := r1.cell 0
  have c1 : w1.cell? ⟨w.heap.size, 1, none⟩ = some (.int .u32 (fr : Int)) := r1.cell 1
  have c3 : w1.cell? ⟨w.heap.size, 3, none⟩ = some (.int .i64 msg) := r1.cell 3
  have c4 : w1.cell? ⟨w.heap.size, 4, none⟩ = some (.int .i64 part) := r1.cell 4
  have c5 : w1.cell? ⟨w.heap.size, 5, none⟩ = some (.int .i64 parts) := r1.cell 5
  have c6 : w1.cell? ⟨w.heap.size, 6, none⟩ = some (.slice am M cm) := r1.cell 6
  have c7 : w1.cell? ⟨w.heap.size, 7, none⟩ = some (.int .u64 (ctr : Int)) := r1.cell 7
  have c8 : w1.cell? ⟨w.heap.size, 8, none⟩ = some (.slice ab n cb) := r1.cell 8
  have HB : Hid (Below w.heap.size w w1) := b1
  clear r1 b1 s1 HA
  by_cases hk : kind = 1
  · have dk : (kind == 1) = true := by simpa using hk
    by_cases h : msg < 0
    · have d : decide (msg < 0) = true := by simpa using h
      have HR : Hid (r = false) := (by rw [HY.out]; exact decide_eq_false (by omega) : r = false)
      clear HY
      go_wp2
      go_ret
      exact ⟨ret_bool HR.out, HB.out⟩
    have d04 : decide (msg < 0) = false := by simpa using h
    have k04 : ¬ (msg < 0) := h
    clear h
    by_cases h : 7 < msg
    · have d : decide (7 < msg) = true := by simpa using h
      have HR : Hid (r = false) := (by rw [HY.out]; exact decide_eq_false (by omega) : r = false)
      clear HY
      go_wp2
      go_ret
      exact ⟨ret_bool HR.out, HB.out⟩
    have d14 : decide (7 < msg) = false := by simpa using h
    have k14 : ¬ (7 < msg) := h
    clear h
    by_cases h : parts < 1
    · have d : decide (parts < 1) = true := by simpa using h
      have HR : Hid (r = false) := (by rw [HY.out]; exact decide_eq_false (by omega) : r = false)
      clear HY
      go_wp2
      go_ret
      exact ⟨ret_bool HR.out, HB.out⟩
    have d24 : decide (parts < 1) = false := by simpa using h
    have k24 : ¬ (parts < 1) := h
    clear h
    by_cases h : 64 < parts
    · have d : decide (64 < parts) = true := by simpa using h
      have HR : Hid (r = false) := (by rw [HY.out]; exact decide_eq_false (by omega) : r = false)
      clear HY
      go_wp2
      go_ret
      exact ⟨ret_bool HR.out, HB.out⟩
    have d34 : decide (64 < parts) = false := by simpa using h
    have k34 : ¬ (64 < parts) := h
    clear h
    by_cases h : part < 0
    · have d : decide (part < 0) = true := by simpa using h
      have HR : Hid (r = false) := (by rw [HY.out]; exact decide_eq_false (by omega) : r = false)
      clear HY
      go_wp2
      go_ret
      exact ⟨ret_bool HR.out, HB.out⟩
    have d44 : decide (part < 0) = false := by simpa using h
    have k44 : ¬ (part < 0) := h
    clear h
    by_cases h : parts ≤ part
    · have d : decide (parts ≤ part) = true := by simpa using h
      have HR : Hid (r = false) := (by rw [HY.out]; exact decide_eq_false (by omega) : r = false)
      clear HY
      go_wp2
      go_ret
      exact ⟨ret_bool HR.out, HB.out⟩
    have d54 : decide (parts ≤ part) = false := by simpa using h
    have k54 : ¬ (parts ≤ part) := h
    clear h
    by_cases h : (M : Int) ≠ 16
    · have d : ((M : Int) != 16) = true := by simpa using h
      have HR : Hid (r = false) := (by rw [HY.out]; exact decide_eq_false (by omega) : r = false)
      clear HY
      go_wp2
      go_ret
      exact ⟨ret_bool HR.out, HB.out⟩
    have d64 : ((M : Int) != 16) = false := by simpa using h
    have k64 : ¬ ((M : Int) ≠ 16) := h
    clear h
    by_cases h : (ctr : Int) ≠ 0
    · have d : ((ctr : Int) != 0) = true := by simpa using h
      have HR : Hid (r = false) := (by rw [HY.out]; exact decide_eq_false (by omega) : r = false)
      clear HY
      go_wp2
      go_ret
      exact ⟨ret_bool HR.out, HB.out⟩
    have d74 : ((ctr : Int) != 0) = false := by simpa using h
    have k74 : ¬ ((ctr : Int) ≠ 0) := h
    clear h
    by_cases h : (n : Int) < 1
    · have d : decide ((n : Int) < 1) = true := by simpa using h
      have HR : Hid (r = false) := (by rw [HY.out]; exact decide_eq_false (by omega) : r = false)
      clear HY
      go_wp2
      go_ret
      exact ⟨ret_bool HR.out, HB.out⟩
    have d84 : decide ((n : Int) < 1) = false := by simpa using h
    have k84 : ¬ ((n : Int) < 1) := h
    clear h
    by_cases h : 1024 < (n : Int)
    · have d : decide (1024 < (n : Int)) = true := by simpa using h
      have HR : Hid (r = false) := (by rw [HY.out]; exact decide_eq_false (by omega) : r = false)
      clear HY
      go_wp2
      go_ret
      exact ⟨ret_bool HR.out, HB.out⟩
    have d94 : decide (1024 < (n : Int)) = false := by simpa using h
    have k94 : ¬ (1024 < (n : Int)) := h
    clear h
    by_cases h : (n : Int) = 1024
    · have d : ((n : Int) == 1024) = true := by simpa using h
      have HR : Hid (r = true) := (by rw [HY.out]; exact decide_eq_true (by omega) : r = true)
      clear HY
      go_wp2
      go_ret
      exact ⟨ret_bool HR.out, HB.out⟩
    have d : ((n : Int) == 1024) = false := by simpa using h
    have kn : ¬ (n : Int) = 1024 := h
    clear h
    by_cases h : part + 1 = parts
    · have d2 : (part + 1 == parts) = true := by simpa using h
      have HR : Hid (r = true) := (by rw [HY.out]; exact decide_eq_true (by omega) : r = true)
      clear HY
      go_wp2
      go_ret
      exact ⟨ret_bool HR.out, HB.out⟩
    have d2 : (part + 1 == parts) = false := by simpa using h
    have kp : ¬ part + 1 = parts := h
    clear h
    have HR : Hid (r = false) := (by rw [HY.out]; exact decide_eq_false (by omega) : r = false)
    clear HY
    go_wp2
    go_ret
    exact ⟨ret_bool HR.out, HB.out⟩
  have dk1 : (kind == 1) = false := by simpa using hk
  by_cases h : (fr : Int) ≠ 0
  · have d : ((fr : Int) != 0) = true := by simpa using h
    have HR : Hid (r = false) := (by rw [HY.out]; exact decide_eq_false (by omega) : r = false)
    clear HY
    go_wp2
    go_ret
    exact ⟨ret_bool HR.out, HB.out⟩
  have d02 : ((fr : Int) != 0) = false := by simpa using h
  have k02 : ¬ ((fr : Int) ≠ 0) := h
  clear h
  by_cases h : msg ≠ 0
  · have d : (msg != 0) = true := by simpa using h
    have HR : Hid (r = false) := (by rw [HY.out]; exact decide_eq_false (by omega) : r = false)
    clear HY
    go_wp2
    go_ret
    exact ⟨ret_bool HR.out, HB.out⟩
  have d12 : (msg != 0) = false := by simpa using h
  have k12 : ¬ (msg ≠ 0) := h
  clear h
  by_cases h : part ≠ 0
  · have d : (part != 0) = true := by simpa using h
    have HR : Hid (r = false) := (by rw [HY.out]; exact decide_eq_false (by omega) : r = false)
    clear HY
    go_wp2
    go_ret
    exact ⟨ret_bool HR.out, HB.out⟩
  have d22 : (part != 0) = false := by simpa using h
  have k22 : ¬ (part ≠ 0) := h
  clear h
  by_cases h : parts ≠ 0
  · have d : (parts != 0) = true := by simpa using h
    have HR : Hid (r = false) := (by rw [HY.out]; exact decide_eq_false (by omega) : r = false)
    clear HY
    go_wp2
    go_ret
    exact ⟨ret_bool HR.out, HB.out⟩
  have d32 : (parts != 0) = false := by simpa using h
  have k32 : ¬ (parts ≠ 0) := h
  clear h
  by_cases hk2 : kind = 2
  · have dk : (kind == 2) = true := by simpa using hk2
    by_cases h : (M : Int) = 16
    rotate_left
    · have d : ((M : Int) == 16) = false := by simpa using h
      have HR : Hid (r = false) := (by rw [HY.out]; exact decide_eq_false (by omega) : r = false)
      clear HY
      go_wp2
      go_ret
      exact ⟨ret_bool HR.out, HB.out⟩
    have d04 : ((M : Int) == 16) = true := by simpa using h
    have k04 : (M : Int) = 16 := h
    clear h
    by_cases h : (ctr : Int) = 0
    rotate_left
    · have d : ((ctr : Int) == 0) = false := by simpa using h
      have HR : Hid (r = false) := (by rw [HY.out]; exact decide_eq_false (by omega) : r = false)
      clear HY
      go_wp2
      go_ret
      exact ⟨ret_bool HR.out, HB.out⟩
    have d14 : ((ctr : Int) == 0) = true := by simpa using h
    have k14 : (ctr : Int) = 0 := h
    clear h
    by_cases h : (n : Int) = 0
    rotate_left
    · have d : ((n : Int) == 0) = false := by simpa using h
      have HR : Hid (r = false) := (by rw [HY.out]; exact decide_eq_false (by omega) : r = false)
      clear HY
      go_wp2
      go_ret
      exact ⟨ret_bool HR.out, HB.out⟩
    have d24 : ((n : Int) == 0) = true := by simpa using h
    have k24 : (n : Int) = 0 := h
    clear h
    have HR : Hid (r = true) := (by rw [HY.out]; exact decide_eq_true (by omega) : r = true)
    clear HY
    go_wp2
    go_ret
    exact ⟨ret_bool HR.out, HB.out⟩
  have dk2 : (kind == 2) = false := by simpa using hk2
  by_cases hk3 : kind = 3
  · have dk : (kind == 3) = true := by simpa using hk3
    by_cases h : (M : Int) = 0
    rotate_left
    · have d : ((M : Int) == 0) = false := by simpa using h
      have HR : Hid (r = false) := (by rw [HY.out]; exact decide_eq_false (by omega) : r = false)
      clear HY
      go_wp2
      go_ret
      exact ⟨ret_bool HR.out, HB.out⟩
    have d04 : ((M : Int) == 0) = true := by simpa using h
    have k04 : (M : Int) = 0 := h
    clear h
    by_cases h : (16 : Int) ≤ (n : Int)
    rotate_left
    · have d : decide ((16 : Int) ≤ (n : Int)) = false := by simpa using h
      have HR : Hid (r = false) := (by rw [HY.out]; exact decide_eq_false (by omega) : r = false)
      clear HY
      go_wp2
      go_ret
      exact ⟨ret_bool HR.out, HB.out⟩
    have d14 : decide ((16 : Int) ≤ (n : Int)) = true := by simpa using h
    have k14 : (16 : Int) ≤ (n : Int) := h
    clear h
    by_cases h : (n : Int) ≤ 1187
    rotate_left
    · have d : decide ((n : Int) ≤ 1187) = false := by simpa using h
      have HR : Hid (r = false) := (by rw [HY.out]; exact decide_eq_false (by omega) : r = false)
      clear HY
      go_wp2
      go_ret
      exact ⟨ret_bool HR.out, HB.out⟩
    have d24 : decide ((n : Int) ≤ 1187) = true := by simpa using h
    have k24 : (n : Int) ≤ 1187 := h
    clear h
    have HR : Hid (r = true) := (by rw [HY.out]; exact decide_eq_true (by omega) : r = true)
    clear HY
    go_wp2
    go_ret
    exact ⟨ret_bool HR.out, HB.out⟩
  have dk3 : (kind == 3) = false := by simpa using hk3
  by_cases h : kind = 4
  rotate_left
  · have d : (kind == 4) = false := by simpa using h
    have HR : Hid (r = false) := (by rw [HY.out]; exact decide_eq_false (by omega) : r = false)
    clear HY
    go_wp2
    go_ret
    exact ⟨ret_bool HR.out, HB.out⟩
  have d02 : (kind == 4) = true := by simpa using h
  have k02 : kind = 4 := h
  clear h
  by_cases h : (M : Int) = 0
  rotate_left
  · have d : ((M : Int) == 0) = false := by simpa using h
    have HR : Hid (r = false) := (by rw [HY.out]; exact decide_eq_false (by omega) : r = false)
    clear HY
    go_wp2
    go_ret
    exact ⟨ret_bool HR.out, HB.out⟩
  have d12 : ((M : Int) == 0) = true := by simpa using h
  have k12 : (M : Int) = 0 := h
  clear h
  by_cases h : (n : Int) = 16
  rotate_left
  · have d : ((n : Int) == 16) = false := by simpa using h
    have HR : Hid (r = false) := (by rw [HY.out]; exact decide_eq_false (by omega) : r = false)
    clear HY
    go_wp2
    go_ret
    exact ⟨ret_bool HR.out, HB.out⟩
  have d22 : ((n : Int) == 16) = true := by simpa using h
  have k22 : (n : Int) = 16 := h
  clear h
  have HR : Hid (r = true) := (by rw [HY.out]; exact decide_eq_true (by omega) : r = true)
  clear HY
  go_wp2
  go_ret
  exact ⟨ret_bool HR.out, HB.out⟩
end Go.Proofs.Ytonnngndknoljaa
