/- What is kept of a peer and of all, where an entry is, and which is the oldest: contracts of the reference of layer 19, second part. -/
import Derived.Test.YtkljklfejaojaaaRef19a
namespace Go.Proofs.Ytkljklfejaojaaa
open Go.ChangeShapes Go.WideShapes Go.ChangeAt Go.RowKit
set_option linter.unusedSimpArgs false
set_option linter.unusedVariables false

/-- A buffer's cells. -/
def bfD (b : Bf) (v : Value) : List Value := [.int .i64 b.pm, .int .i64 b.am, .int .u64 (b.age : Int), v]
theorem infoBf (b : Bf) (v : Value) : (Try.prog.info? 40).map (·.size) = some (bfD b v).length := by
  show _ = some 4
  kernel_rfl

set_option maxRecDepth 100000 in
set_option maxHeartbeats 2000000 in
theorem total19_any (B : Bf) (hl : B.l.length ≤ 1000) (hs : EnS B.l) (A : Array Value) (v : Value) (hA : A = (bfD B v).toArray) (w : World) (hr : EnR w v B.l) :
    Calls Try.prog 20 #[.agg A] w fun r w' => r = .returned (.int .i64 (ttB B.l : Int)) ∧ Below w.heap.size w w' := by
  subst hA
  obtain ⟨a, c, rfl, h2, h3⟩ := hr.len
  unfold maxLen at h3
  obtain ⟨l, hll⟩ : ∃ l, l = B.l := ⟨_, rfl⟩
  rw [← hll] at hl hs hr h2 ⊢
  obtain ⟨n, hn⟩ : ∃ n : Nat, n = l.length := ⟨_, rfl⟩
  have HN : Hid (n = l.length) := hn
  have HS : Hid (EnS l) := hs
  rw [← hn] at h2 hr hl ⊢
  have HR : Hid (EnR w (.slice a n c) l) := hr
  clear hr hs hn hll
  go_enter Try.func20, Try.ntmps20
  go_wp2_with (refine wpList_box_blk rfl 40 _ rfl (bfD B (.slice a n c)) (by rfl) ?_)
  intro w1 r1 b1 s1
  have c3 : w1.cell? ⟨w.heap.size, 3, none⟩ = some (.slice a n c) := r1.cell 3
  have HB1 : Hid (Below w.heap.size w w1) := b1
  have HC : Hid (∀ W, Below w1.heap.size w1 W → W.cell? ⟨w.heap.size, 3, none⟩ = some (.slice a n c)) := fun W hW => (r1.kept hW).cell 3
  clear r1 b1 s1 c3
  go_wp2
  go_loopw [3, 4] (fun xv iv wx => ∃ i x : Nat, i ≤ n ∧ iv = .int .i64 (i : Int) ∧ xv = .int .i64 (x : Int) ∧ x ≤ i * 65536 ∧ Hid (x = ttB (l.take i)) ∧ Hid (Below w1.heap.size w1 wx)) (fun _ iv _ => n - (intOf iv).toNat)
  case atStart => exact ⟨0, 0, by omega, rfl, rfl, by omega, (by simp [ttB] : (0 : Nat) = ttB (l.take 0)), Below.refl _ _⟩
  case round =>
    obtain ⟨i, x, hi, rfl, rfl, hx, HX, HBx⟩ := hrel
    have c3 := HC.out wr HBx.out
    by_cases hlt : i < n
    · have hd : decide ((i : Int) < (n : Int)) = true := decide_eq_true (by omega)
      have hiI : (i : Int) < (n : Int) := by omega
      have hil : i < l.length := by rw [← HN.out]; exact hlt
      obtain ⟨b, off, a', c', rfl, q0, q1, q2, q3, hp⟩ := ((HR.out.kept HB1.out).kept HBx.out).at hil
      have hes := HS.out.at hil
      obtain ⟨y, hy⟩ : ∃ y, y = l.getD i noE := ⟨_, rfl⟩
      rw [← hy] at q0 q1 q2 q3 hp hes
      have hrg := range_four q0 q1 q2 q3
      have HY : Hid (szE y ≤ 65536) := szE_le hes
      have HX2 : Hid (x + szE y = ttB (l.take (i + 1))) := by show _ = _; unfold ttB; rw [sum_take _ noE _ _ hil, ← hy]; have := HX.out; unfold ttB at this; omega
      have HES : Hid (EntS y) := hes
      have HP : Hid (RdC wr (.slice a' y.parts.length c') (y.parts.map sv)) := hp
      clear q0 q1 q2 q3 hy hil hes hp
      go_wp2_with (refine wpList_load_mid rfl 71 _ rfl b (off + i * 4) rfl (enD y (.slice a' y.parts.length c')) _ hrg Try.underlying71 rfl (infoEnt _ _) ?_)
      refine (size19_any y HES.out _ _ rfl _ HP.out).mono ?_
      rintro e w2 ⟨rfl, b2⟩
      have HB2 : Hid (Below w1.heap.size w1 w2) := stepB HBx.out b2
      have hY := HY.out
      generalize szE y = m at hY HX2
      have e1 : IntKind.i64.wrap ((x : Int) + (m : Int)) = ((x + m : Nat) : Int) := by rw [IntWalk.i64_in _ (by omega)]; omega
      have hzb : x + m ≤ (i + 1) * 65536 := by omega
      generalize x + m = z at e1 HX2 hzb
      clear b2 hrg
      go_wp2
      go_roundw
      case rel => exact ⟨i + 1, z, by omega, by go_num, rfl, hzb, HX2, HB2⟩
      case measure => simp [intOf] <;> omega
    · have hd : decide ((i : Int) < (n : Int)) = false := decide_eq_false (by omega)
      have HF : Hid (ttB l = x) := by
        show _ = _
        rw [HX.out, List.take_of_length_le (by rw [← HN.out]; omega)]
      have HBF : Hid (Below w.heap.size w wr) := stepB HB1.out HBx.out
      go_wp2
      go_ret
      exact ⟨by rw [HF.out]; rfl, HBF.out⟩
set_option maxRecDepth 100000 in
set_option maxHeartbeats 2000000 in
theorem held19_any (B : Bf) (p : List UInt8) (hl : B.l.length ≤ 1000) (hs : EnS B.l) (A : Array Value) (v : Value) (hA : A = (bfD B v).toArray) (w : World) (hr : EnR w v B.l) :
    Calls Try.prog 23 #[.agg A, .string ⟨p.toArray⟩] w fun r w' => r = .returned (.int .i64 (hdB B.l p : Int)) ∧ Below w.heap.size w w' := by
  subst hA
  obtain ⟨a, c, rfl, h2, h3⟩ := hr.len
  unfold maxLen at h3
  obtain ⟨l, hll⟩ : ∃ l, l = B.l := ⟨_, rfl⟩
  rw [← hll] at hl hs hr h2 ⊢
  obtain ⟨n, hn⟩ : ∃ n : Nat, n = l.length := ⟨_, rfl⟩
  have HN : Hid (n = l.length) := hn
  have HS : Hid (EnS l) := hs
  rw [← hn] at h2 hr hl ⊢
  have HR : Hid (EnR w (.slice a n c) l) := hr
  clear hr hs hn hll
  go_enter Try.func23, Try.ntmps23
  go_wp2_with (refine wpList_box_blk rfl 40 _ rfl (bfD B (.slice a n c)) (by rfl) ?_)
  intro w1 r1 b1 s1
  have HB1 : Hid (Below w.heap.size w w1) := b1
  have HC : Hid (∀ W, Below w1.heap.size w1 W → W.cell? ⟨w.heap.size, 3, none⟩ = some (.slice a n c)) := fun W hW => (r1.kept hW).cell 3
  clear r1 b1 s1
  go_wp2
  go_loopw [5, 6] (fun xv iv wx => ∃ i x : Nat, i ≤ n ∧ iv = .int .i64 (i : Int) ∧ xv = .int .i64 (x : Int) ∧ x ≤ i * 65536 ∧ Hid (x = hdB (l.take i) p) ∧ Hid (Below w1.heap.size w1 wx)) (fun _ iv _ => n - (intOf iv).toNat)
  case atStart => exact ⟨0, 0, by omega, rfl, rfl, by omega, (by simp [hdB] : (0 : Nat) = hdB (l.take 0) p), Below.refl _ _⟩
  case round =>
    obtain ⟨i, x, hi, rfl, rfl, hx, HX, HBx⟩ := hrel
    have c3 := HC.out wr HBx.out
    by_cases hlt : i < n
    · have hd : decide ((i : Int) < (n : Int)) = true := decide_eq_true (by omega)
      have hiI : (i : Int) < (n : Int) := by omega
      have hil : i < l.length := by rw [← HN.out]; exact hlt
      obtain ⟨b, off, a', c', rfl, q0, q1, q2, q3, hp⟩ := ((HR.out.kept HB1.out).kept HBx.out).at hil
      have hes := HS.out.at hil
      obtain ⟨y, hy⟩ : ∃ y, y = l.getD i noE := ⟨_, rfl⟩
      rw [← hy] at q0 q1 q2 q3 hp hes
      have hrg := range_four q0 q1 q2 q3
      have HY : Hid (szE y ≤ 65536) := szE_le hes
      have HX2 : Hid (x + (if y.peer = p then szE y else 0) = hdB (l.take (i + 1)) p) := by show _ = _; unfold hdB; rw [sum_take _ noE _ _ hil, ← hy]; have := HX.out; unfold hdB at this; omega
      have HES : Hid (EntS y) := hes
      have HP : Hid (RdC wr (.slice a' y.parts.length c') (y.parts.map sv)) := hp
      by_cases he : y.peer = p
      · have hq : (y.peer == p) = true := by simp [he]
        rw [if_pos he] at HX2
        clear q1 q2 q3 hy hil hes hp he
        go_wp2_with (refine wpList_load_mid rfl 71 _ rfl b (off + i * 4) rfl (enD y (.slice a' y.parts.length c')) _ hrg Try.underlying71 rfl (infoEnt _ _) ?_)
        refine (size19_any y HES.out _ _ rfl _ HP.out).mono ?_
        rintro e w2 ⟨rfl, b2⟩
        have HB2 : Hid (Below w1.heap.size w1 w2) := stepB HBx.out b2
        have hY := HY.out
        generalize szE y = m at hY HX2
        have e1 : IntKind.i64.wrap ((x : Int) + (m : Int)) = ((x + m : Nat) : Int) := by rw [IntWalk.i64_in _ (by omega)]; omega
        have hzb : x + m ≤ (i + 1) * 65536 := by omega
        generalize x + m = z at e1 HX2 hzb
        clear b2 hrg
        go_wp2
        go_roundw
        case rel => exact ⟨i + 1, z, by omega, by go_num, rfl, hzb, HX2, HB2⟩
        case measure => simp [intOf] <;> omega
      · have hq : (y.peer == p) = false := by simp [he]
        rw [if_neg he, Nat.add_zero] at HX2
        clear q1 q2 q3 hy hil hes hp he hrg
        go_wp2
        go_roundw
        case rel => exact ⟨i + 1, x, by omega, by go_num, rfl, Nat.le_trans hx (Nat.mul_le_mul_right _ (Nat.le_succ _)), HX2, HBx⟩
        case measure => simp [intOf] <;> omega
    · have hd : decide ((i : Int) < (n : Int)) = false := decide_eq_false (by omega)
      have HF : Hid (hdB l p = x) := by
        show _ = _
        rw [HX.out, List.take_of_length_le (by rw [← HN.out]; omega)]
      have HBF : Hid (Below w.heap.size w wr) := stepB HB1.out HBx.out
      go_wp2
      go_ret
      exact ⟨by rw [HF.out]; rfl, HBF.out⟩
/-- Where an entry is, as the reference tells it. -/
def fdI (p : List UInt8) (m : Int) (l : List Ent) : Int := if fdN p m l < l.length then (fdN p m l : Int) else -1
set_option maxRecDepth 100000 in
set_option maxHeartbeats 2000000 in
theorem find19_any (B : Bf) (p : List UInt8) (m : Int) (hl : B.l.length ≤ 1000) (A : Array Value) (v : Value) (hA : A = (bfD B v).toArray) (w : World) (hr : EnR w v B.l) :
    Calls Try.prog 39 #[.agg A, .string ⟨p.toArray⟩, .int .i64 m] w fun r w' => r = .returned (.int .i64 (fdI p m B.l)) ∧ Below w.heap.size w w' := by
  subst hA
  obtain ⟨a, c, rfl, h2, h3⟩ := hr.len
  unfold maxLen at h3
  obtain ⟨l, hll⟩ : ∃ l, l = B.l := ⟨_, rfl⟩
  rw [← hll] at hl hr h2 ⊢
  obtain ⟨n, hn⟩ : ∃ n : Nat, n = l.length := ⟨_, rfl⟩
  have HN : Hid (n = l.length) := hn
  rw [← hn] at h2 hr hl ⊢
  have HR : Hid (EnR w (.slice a n c) l) := hr
  obtain ⟨R, hR⟩ : ∃ R, R = fdI p m l := ⟨_, rfl⟩
  have HRR : Hid (R = fdI p m l) := hR
  rw [← hR]
  clear hr hn hll hR
  go_enter Try.func39, Try.ntmps39
  go_wp2_with (refine wpList_box_blk rfl 40 _ rfl (bfD B (.slice a n c)) (by rfl) ?_)
  intro w1 r1 b1 s1
  have HB1 : Hid (Below w.heap.size w w1) := b1
  have c3 : w1.cell? ⟨w.heap.size, 3, none⟩ = some (.slice a n c) := r1.cell 3
  clear r1 b1 s1
  go_wp2
  go_loop [7] (fun iv => ∃ i : Nat, i ≤ n ∧ iv = .int .i64 (i : Int) ∧ Hid (∀ k, k < i → isE p m (l.getD k noE) = false)) (fun iv => n - (intOf iv).toNat)
  case atStart => exact ⟨0, by omega, rfl, (by intro k hk; omega : ∀ k, k < 0 → isE p m (l.getD k noE) = false)⟩
  case round =>
    obtain ⟨i, hi, rfl, HX⟩ := hrel
    by_cases hlt : i < n
    · have hd : decide ((i : Int) < (n : Int)) = true := decide_eq_true (by omega)
      have hiI : (i : Int) < (n : Int) := by omega
      have hil : i < l.length := by rw [← HN.out]; exact hlt
      obtain ⟨b, off, a', c', rfl, q0, q1, -, -, -⟩ := (HR.out.kept HB1.out).at hil
      obtain ⟨y, hy⟩ : ∃ y, y = l.getD i noE := ⟨_, rfl⟩
      rw [← hy] at q0 q1
      have HNx : Hid (isE p m y = false → ∀ k, k < i + 1 → isE p m (l.getD k noE) = false) := by
        show _ → ∀ k, _
        intro h k hk
        rcases Nat.lt_or_ge k i with h2 | h2
        · exact HX.out k h2
        · rw [show k = i by omega, ← hy]; exact h
      have HYe : Hid (isE p m y = true → R = (i : Int)) := by
        show _ → _
        intro h
        rw [HRR.out, fdI, fdN_eq HX.out hil (by rw [← hy]; exact h), if_pos hil]
      by_cases he : y.peer = p
      · have hq : (y.peer == p) = true := by simp [he]
        by_cases hm : y.msg = m
        · have hq2 : (y.msg == m) = true := by simp [hm]
          have HF : Hid (R = (i : Int)) := HYe.out (by unfold isE; rw [decide_eq_true he, decide_eq_true hm]; rfl)
          clear hy he hm HNx HYe
          go_wp2
          go_ret
          exact ⟨by rw [HF.out]; rfl, HB1.out⟩
        · have hq2 : (y.msg == m) = false := by simp [hm]
          have HX2 : Hid _ := HNx.out (by unfold isE; rw [decide_eq_false hm, Bool.and_false])
          clear hy he hm HNx HYe
          go_wp2
          go_round
          case rel => exact ⟨i + 1, by omega, by go_num, HX2⟩
          case measure => simp [intOf] <;> omega
      · have hq : (y.peer == p) = false := by simp [he]
        have HX2 : Hid _ := HNx.out (by unfold isE; rw [decide_eq_false he, Bool.false_and])
        clear hy he HNx HYe
        go_wp2
        go_round
        case rel => exact ⟨i + 1, by omega, by go_num, HX2⟩
        case measure => simp [intOf] <;> omega
    · have hd : decide ((i : Int) < (n : Int)) = false := decide_eq_false (by omega)
      have HF : Hid (R = -1) := by
        show _ = _
        rw [HRR.out, fdI, if_neg]
        rw [fdN_none fun k hk => HX.out k (by have := HN.out; omega)]
        omega
      go_wp2
      go_ret
      exact ⟨by rw [HF.out]; rfl, HB1.out⟩
end Go.Proofs.Ytkljklfejaojaaa
