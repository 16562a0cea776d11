/- How much is kept, and where an entry is: contracts of package frag, sixth part. -/
import Derived.Test.YtkljklfejaojaaaFg19e
namespace Go.Proofs.Ytkljklfejaojaaa
open Go.ChangeShapes Go.WideShapes Go.ChangeAt Go.RowKit
set_option linter.unusedSimpArgs false
set_option linter.unusedVariables false

def enYs (xs : List Ey) : List Ent := xs.map Ey.e
theorem enYs_length (xs : List Ey) : (enYs xs).length = xs.length := by simp [enYs]
theorem enYs_get (xs : List Ey) {i : Nat} (h : i < xs.length) : (enYs xs).getD i noE = (xs.getD i noY).e := by simp [enYs, h]
def EnF (xs : List Ey) (w : World) : Prop := ∀ x ∈ xs, enF x w
theorem EnF.kept {xs : List Ey} {w w' : World} (h : EnF xs w) (hb : Below w.heap.size w w') : EnF xs w' := fun x hx => BlkAt.kept (h x hx) hb
theorem EsP.enF {K : Nat → Prop} {w : World} {xs : List Ey} (h : EsP K w xs) : EnF xs w := fun x hx => by
  obtain ⟨vs, hv⟩ := h x hx
  exact hv.blk
theorem EnF.at {xs : List Ey} {w : World} (h : EnF xs w) {i : Nat} (hi : i < xs.length) : enF (xs.getD i noY) w := h _ (ey_mem hi)

set_option maxRecDepth 100000 in
set_option maxHeartbeats 2000000 in
theorem total_any (xs : List Ey) (v : Value) (hl : xs.length ≤ 1000) (hs : EnS (enYs xs)) (w : World) (hr : RdC w v (pvs xs)) (he : EnF xs w) :
    Calls Try.prog 42 #[v] w fun r w' => r = .returned (.int .i64 (ttB (enYs xs) : Int)) ∧ Below w.heap.size w w' := by
  obtain ⟨a, c, rfl, h1, h3, -⟩ := hr.formF
  unfold maxLen at h3
  rw [pvs_length] at h1 hr ⊢
  obtain ⟨n, hn⟩ : ∃ n : Nat, n = xs.length := ⟨_, rfl⟩
  rw [← hn] at hl hr h1 ⊢
  have HN : Hid (n = xs.length) := hn
  have HS : Hid (EnS (enYs xs)) := hs
  have HR : Hid (RdC w (.slice a n c) (pvs xs)) := hr
  have HE : Hid (EnF xs w) := he
  clear hr hs hn he
  go_enter Try.func42, Try.ntmps42
  go_wp2
  go_loop [3, 8] (fun xv iv => ∃ i x : Nat, i ≤ n ∧ iv = .int .i64 (i : Int) ∧ xv = .int .i64 (x : Int) ∧ x ≤ i * 65536 ∧ Hid (x = ttB ((enYs xs).take i))) (fun _ iv => n - (intOf iv).toNat)
  case atStart => exact ⟨0, 0, by omega, rfl, rfl, by omega, (by simp [ttB] : (0 : Nat) = ttB ((enYs xs).take 0))⟩
  case round =>
    obtain ⟨i, x, hi, rfl, rfl, hx, HX⟩ := hrel
    by_cases hlt : i < n
    · have hd : decide ((i : Int) < (n : Int)) = true := decide_eq_true (by omega)
      have hiI : (i : Int) < (n : Int) := by omega
      have hil : i < xs.length := by rw [← HN.out]; exact hlt
      have hil2 : i < (enYs xs).length := by rw [enYs_length]; exact hil
      obtain ⟨b, off, rfl, hc⟩ := HR.out.atF hil
      have c4 := BlkAt.cell (HE.out.at hil) 4
      replace c4 : w.cell? ⟨(xs.getD i noY).g, 4, none⟩ = some (.int .i64 ((szE (xs.getD i noY).e : Nat) : Int)) := c4
      have hz := szE_le (HS.out.at hil2)
      have HX2 : Hid (x + szE (xs.getD i noY).e = ttB ((enYs xs).take (i + 1))) := by
        show _ = _
        unfold ttB
        rw [sum_take _ noE _ _ hil2, enYs_get _ hil]
        have := HX.out
        unfold ttB at this
        omega
      rw [enYs_get _ hil] at hz
      obtain ⟨y, hy⟩ : ∃ y, y = xs.getD i noY := ⟨_, rfl⟩
      rw [← hy] at hc c4 HX2 hz
      generalize szE y.e = m at c4 HX2 hz
      generalize y.g = g at hc c4
      have e1 : IntKind.i64.wrap ((x : Int) + (m : Int)) = ((x + m : Nat) : Int) := by rw [IntWalk.i64_in _ (by omega)]; omega
      have hzb : x + m ≤ (i + 1) * 65536 := by omega
      generalize x + m = z at e1 HX2 hzb
      clear hy hil hil2
      go_wp2
      go_round
      case rel => exact ⟨i + 1, z, by omega, by go_num, rfl, hzb, HX2⟩
      case measure => simp [intOf] <;> omega
    · have hd : decide ((i : Int) < (n : Int)) = false := decide_eq_false (by omega)
      have HF : Hid (ttB (enYs xs) = x) := by
        show _ = _
        rw [HX.out, List.take_of_length_le (by rw [enYs_length, ← HN.out]; omega)]
      go_wp2
      go_ret
      exact ⟨by rw [HF.out]; rfl, Below.refl _ _⟩
set_option maxRecDepth 100000 in
set_option maxHeartbeats 2000000 in
theorem held_any (xs : List Ey) (p : List UInt8) (v : Value) (hl : xs.length ≤ 1000) (hs : EnS (enYs xs)) (w : World) (hr : RdC w v (pvs xs)) (he : EnF xs w) :
    Calls Try.prog 44 #[v, .string ⟨p.toArray⟩] w fun r w' => r = .returned (.int .i64 (hdB (enYs xs) p : Int)) ∧ Below w.heap.size w w' := by
  obtain ⟨a, c, rfl, h1, h3, -⟩ := hr.formF
  unfold maxLen at h3
  rw [pvs_length] at h1 hr ⊢
  obtain ⟨n, hn⟩ : ∃ n : Nat, n = xs.length := ⟨_, rfl⟩
  rw [← hn] at hl hr h1 ⊢
  have HN : Hid (n = xs.length) := hn
  have HS : Hid (EnS (enYs xs)) := hs
  have HR : Hid (RdC w (.slice a n c) (pvs xs)) := hr
  have HE : Hid (EnF xs w) := he
  clear hr hs hn he
  go_enter Try.func44, Try.ntmps44
  go_wp2
  go_loop [5, 10] (fun xv iv => ∃ i x : Nat, i ≤ n ∧ iv = .int .i64 (i : Int) ∧ xv = .int .i64 (x : Int) ∧ x ≤ i * 65536 ∧ Hid (x = hdB ((enYs xs).take i) p)) (fun _ iv => n - (intOf iv).toNat)
  case atStart => exact ⟨0, 0, by omega, rfl, rfl, by omega, (by simp [hdB] : (0 : Nat) = hdB ((enYs xs).take 0) p)⟩
  case round =>
    obtain ⟨i, x, hi, rfl, rfl, hx, HX⟩ := hrel
    by_cases hlt : i < n
    · have hd : decide ((i : Int) < (n : Int)) = true := decide_eq_true (by omega)
      have hiI : (i : Int) < (n : Int) := by omega
      have hil : i < xs.length := by rw [← HN.out]; exact hlt
      have hil2 : i < (enYs xs).length := by rw [enYs_length]; exact hil
      obtain ⟨b, off, rfl, hc⟩ := HR.out.atF hil
      have c4 := BlkAt.cell (HE.out.at hil) 4
      replace c4 : w.cell? ⟨(xs.getD i noY).g, 4, none⟩ = some (.int .i64 ((szE (xs.getD i noY).e : Nat) : Int)) := c4
      have c0 := BlkAt.cell (HE.out.at hil) 0
      replace c0 : w.cell? ⟨(xs.getD i noY).g, 0, none⟩ = some (.string ⟨(xs.getD i noY).e.peer.toArray⟩) := c0
      have hz := szE_le (HS.out.at hil2)
      have HX2 : Hid (x + (if (xs.getD i noY).e.peer = p then szE (xs.getD i noY).e else 0) = hdB ((enYs xs).take (i + 1)) p) := by
        show _ = _
        unfold hdB
        rw [sum_take _ noE _ _ hil2, enYs_get _ hil]
        have := HX.out
        unfold hdB at this
        omega
      rw [enYs_get _ hil] at hz
      obtain ⟨y, hy⟩ : ∃ y, y = xs.getD i noY := ⟨_, rfl⟩
      rw [← hy] at hc c4 c0 HX2 hz
      generalize szE y.e = m at c4 HX2 hz
      generalize y.g = g at hc c4 c0
      generalize y.e.peer = q at c0 HX2
      by_cases hqp : q = p
      · subst hqp
        rw [if_pos rfl] at HX2
        have e1 : IntKind.i64.wrap ((x : Int) + (m : Int)) = ((x + m : Nat) : Int) := by rw [IntWalk.i64_in _ (by omega)]; omega
        have hzb : x + m ≤ (i + 1) * 65536 := by omega
        generalize x + m = z at e1 HX2 hzb
        clear hy hil hil2
        go_wp2
        go_round
        case rel => exact ⟨i + 1, z, by omega, by go_num, rfl, hzb, HX2⟩
        case measure => simp [intOf] <;> omega
      · rw [if_neg hqp, Nat.add_zero] at HX2
        have hbq : (q == p) = false := beq_eq_false_iff_ne.2 hqp
        have hzb : x ≤ (i + 1) * 65536 := Nat.le_trans hx (Nat.mul_le_mul_right _ (Nat.le_succ i))
        clear hy hil hil2 c4
        go_wp2
        go_round
        case rel => exact ⟨i + 1, x, by omega, by go_num, rfl, hzb, HX2⟩
        case measure => simp [intOf] <;> omega
    · have hd : decide ((i : Int) < (n : Int)) = false := decide_eq_false (by omega)
      have HF : Hid (hdB (enYs xs) p = x) := by
        show _ = _
        rw [HX.out, List.take_of_length_le (by rw [enYs_length, ← HN.out]; omega)]
      go_wp2
      go_ret
      exact ⟨by rw [HF.out]; rfl, Below.refl _ _⟩
/-- What a search for an entry answers. -/
def fyV (p : List UInt8) (m : Int) (xs : List Ey) : Value := if fdN p m (enYs xs) < xs.length then pV (xs.getD (fdN p m (enYs xs)) noY).g else .pointer none
set_option maxRecDepth 100000 in
set_option maxHeartbeats 2000000 in
theorem find_any (xs : List Ey) (p : List UInt8) (m : Int) (v : Value) (w : World) (hr : RdC w v (pvs xs)) (he : EnF xs w) :
    Calls Try.prog 30 #[v, .string ⟨p.toArray⟩, .int .i64 m] w fun r w' => r = .returned (fyV p m xs) ∧ Below w.heap.size w w' := by
  obtain ⟨a, c, rfl, h1, h3, -⟩ := hr.formF
  unfold maxLen at h3
  rw [pvs_length] at h1 hr ⊢
  obtain ⟨n, hn⟩ : ∃ n : Nat, n = xs.length := ⟨_, rfl⟩
  rw [← hn] at hr h1 ⊢
  have HN : Hid (n = xs.length) := hn
  have HR : Hid (RdC w (.slice a n c) (pvs xs)) := hr
  have HE : Hid (EnF xs w) := he
  obtain ⟨R, hR⟩ : ∃ R, R = fyV p m xs := ⟨_, rfl⟩
  have HRR : Hid (R = fyV p m xs) := hR
  rw [← hR]
  clear hr hn he hR
  go_enter Try.func30, Try.ntmps30
  go_wp2
  go_loop [11] (fun iv => ∃ i : Nat, i ≤ n ∧ iv = .int .i64 (i : Int) ∧ Hid (∀ k, k < i → isE p m ((enYs xs).getD k noE) = false)) (fun iv => n - (intOf iv).toNat)
  case atStart => exact ⟨0, by omega, rfl, (by intro k hk; omega : ∀ k, k < 0 → isE p m ((enYs xs).getD k noE) = false)⟩
  case round =>
    obtain ⟨i, hi, rfl, HX⟩ := hrel
    by_cases hlt : i < n
    · have hd : decide ((i : Int) < (n : Int)) = true := decide_eq_true (by omega)
      have hiI : (i : Int) < (n : Int) := by omega
      have hil : i < xs.length := by rw [← HN.out]; exact hlt
      have hil2 : i < (enYs xs).length := by rw [enYs_length]; exact hil
      obtain ⟨b, off, rfl, hc⟩ := HR.out.atF hil
      have c0 := BlkAt.cell (HE.out.at hil) 0
      replace c0 : w.cell? ⟨(xs.getD i noY).g, 0, none⟩ = some (.string ⟨(xs.getD i noY).e.peer.toArray⟩) := c0
      have c1 := BlkAt.cell (HE.out.at hil) 1
      replace c1 : w.cell? ⟨(xs.getD i noY).g, 1, none⟩ = some (.int .i64 (xs.getD i noY).e.msg) := c1
      have HNx : Hid (isE p m (xs.getD i noY).e = false → ∀ k, k < i + 1 → isE p m ((enYs xs).getD k noE) = false) := by
        show _ → ∀ k, _
        intro h k hk
        rcases Nat.lt_or_ge k i with h2 | h2
        · exact HX.out k h2
        · rw [show k = i by omega, enYs_get _ hil]; exact h
      have HYe : Hid (isE p m (xs.getD i noY).e = true → R = pV (xs.getD i noY).g) := by
        show _ → _
        intro h
        have e1 : fdN p m (enYs xs) = i := fdN_eq HX.out hil2 (by rw [enYs_get _ hil]; exact h)
        rw [HRR.out, fyV, e1, if_pos hil]
      obtain ⟨y, hy⟩ : ∃ y, y = xs.getD i noY := ⟨_, rfl⟩
      rw [← hy] at hc c0 c1 HNx HYe
      have HIs : Hid (isE p m y.e = (decide (y.e.peer = p) && decide (y.e.msg = m))) := rfl
      generalize isE p m y.e = r at HIs HNx HYe
      generalize y.e.peer = q at c0 HIs
      generalize y.e.msg = k at c1 HIs
      generalize y.g = g at hc c0 c1 HYe
      clear hy hil hil2
      by_cases hqp : q = p
      · have hq : (q == p) = true := beq_iff_eq.2 hqp
        by_cases hm : k = m
        · have hq2 : (k == m) = true := beq_iff_eq.2 hm
          have HF : Hid (R = pV g) := HYe.out (by rw [HIs.out, decide_eq_true hqp, decide_eq_true hm]; rfl)
          clear hqp hm HNx HYe HIs
          go_wp2
          go_ret
          exact ⟨by rw [HF.out]; rfl, Below.refl _ _⟩
        · have hq2 : (k == m) = false := by simp [hm]
          have HX2 : Hid _ := HNx.out (by rw [HIs.out, decide_eq_false hm, Bool.and_false])
          clear hqp hm HNx HYe HIs
          go_wp2
          go_round
          case rel => exact ⟨i + 1, by omega, by go_num, HX2⟩
          case measure => simp [intOf] <;> omega
      · have hq : (q == p) = false := by simp [hqp]
        have HX2 : Hid _ := HNx.out (by rw [HIs.out, decide_eq_false hqp, Bool.false_and])
        clear hqp HNx HYe HIs
        go_wp2
        go_round
        case rel => exact ⟨i + 1, by omega, by go_num, HX2⟩
        case measure => simp [intOf] <;> omega
    · have hd : decide ((i : Int) < (n : Int)) = false := decide_eq_false (by omega)
      have HF : Hid (R = .pointer none) := by
        show _ = _
        have e1 : fdN p m (enYs xs) = (enYs xs).length := fdN_none fun k hk => HX.out k (by rw [enYs_length] at hk; have := HN.out; omega)
        rw [HRR.out, fyV, e1, enYs_length, if_neg (Nat.lt_irrefl _)]
      go_wp2
      go_ret
      exact ⟨by rw [HF.out]; rfl, Below.refl _ _⟩
end Go.Proofs.Ytkljklfejaojaaa
