/- Which of a peer's entries is the oldest, which piece may be, a new buffer, and a message's pieces: contracts of the reference of layer 19, sixth part. -/
import Derived.Test.YtkljklfejaojaaaRef19e
namespace Go.Proofs.Ytkljklfejaojaaa
open Go.ChangeShapes Go.WideShapes Go.ChangeAt Go.RowKit
set_option linter.unusedSimpArgs false
set_option linter.unusedVariables false

/-- A place, or none, as the reference tells it. -/
def oI : Option Nat → Int
  | none => -1
  | some a => (a : Int)
def odX (p : List UInt8) (m : Int) (i : Nat) (y : Ent) (bn : Nat → Nat) : Option Nat → Option Nat
  | none => if otE p m y = true then some i else none
  | some a => if otE p m y = true ∧ y.born < bn a then some i else some a
theorem odS_next (p : List UInt8) (m : Int) (l : List Ent) (i : Nat) : odS p m l (i + 1) = odX p m i (l.getD i noE) (fun a => (l.getD a noE).born) (odS p m l i) := by
  rw [odS]
  cases odS p m l i <;> rfl
theorem odX_no {p : List UInt8} {m : Int} {i : Nat} {y : Ent} {bn : Nat → Nat} (h : otE p m y = false) (o : Option Nat) : odX p m i y bn o = o := by
  cases o <;> simp [odX, h]
theorem odX_none {p : List UInt8} {m : Int} {i : Nat} {y : Ent} {bn : Nat → Nat} (h : otE p m y = true) : odX p m i y bn none = some i := by simp [odX, h]
theorem odX_some {p : List UInt8} {m : Int} {i a : Nat} {y : Ent} {bn : Nat → Nat} (h : otE p m y = true) : odX p m i y bn (some a) = if y.born < bn a then some i else some a := by simp [odX, h]
set_option maxRecDepth 100000 in
set_option maxHeartbeats 4000000 in
theorem oldest19_any (B : Bf) (p : List UInt8) (m : Int) (hl : B.l.length ≤ 1000) (hs : EnS B.l) (A : Array Value) (v : Value) (hA : A = (bfD B v).toArray) (w : World) (hr : EnR w v B.l) :
    Calls Try.prog 40 #[.agg A, .string ⟨p.toArray⟩, .int .i64 m] w fun r w' => r = .returned (.int .i64 (oI (odN p m B.l))) ∧ Below w.heap.size w w' := by
  subst hA
  obtain ⟨a, c, rfl, h2, h3⟩ := hr.len
  unfold maxLen at h3
  obtain ⟨l, hll⟩ : ∃ l, l = B.l := ⟨_, rfl⟩
  rw [← hll] at hl hr h2 hs ⊢
  obtain ⟨n, hn⟩ : ∃ n : Nat, n = l.length := ⟨_, rfl⟩
  have HN : Hid (n = l.length) := hn
  have HS : Hid (EnS l) := hs
  rw [← hn] at h2 hr hl ⊢
  have HR : Hid (EnR w (.slice a n c) l) := hr
  clear hr hn hll hs
  go_enter Try.func40, Try.ntmps40
  go_wp2_with (refine wpList_box_blk rfl 40 _ rfl (bfD B (.slice a n c)) (by rfl) ?_)
  intro w1 r1 b1 s1
  have HB1 : Hid (Below w.heap.size w w1) := b1
  have HC : Hid (∀ W, Below w1.heap.size w1 W → W.cell? ⟨w.heap.size, 3, none⟩ = some (.slice a n c)) := fun W hW => (r1.kept hW).cell 3
  clear r1 b1 s1
  go_wp2
  go_loopw [7, 8] (fun ov iv wx => ∃ i : Nat, ∃ o : Option Nat, i ≤ n ∧ iv = .int .i64 (i : Int) ∧ ov = .int .i64 (oI o) ∧ Hid (o = odS p m l i) ∧ Hid (Below w1.heap.size w1 wx)) (fun _ iv _ => n - (intOf iv).toNat)
  case atStart => exact ⟨0, none, by omega, rfl, rfl, rfl, Below.refl _ _⟩
  case round =>
    obtain ⟨i, o, hi, rfl, rfl, HO, HBx⟩ := hrel
    have c3 := HC.out wr HBx.out
    by_cases hlt : i < n
    · have hd : decide ((i : Int) < (n : Int)) = true := decide_eq_true (by omega)
      have hiI : (i : Int) < (n : Int) := by omega
      have hil : i < l.length := by rw [← HN.out]; exact hlt
      have hRr := (HR.out.kept HB1.out).kept HBx.out
      obtain ⟨b, off, a', c', rfl, q0, q1, q2, -, -⟩ := hRr.at hil
      obtain ⟨y, hy⟩ : ∃ y, y = l.getD i noE := ⟨_, rfl⟩
      rw [← hy] at q0 q1 q2
      obtain ⟨bo, hbo⟩ : ∃ b : Nat, b = y.born := ⟨_, rfl⟩
      rw [← hbo] at q2
      have HBN : Hid (∀ q, Below wr.heap.size wr q → Below w1.heap.size w1 q) := fun q hq => stepB HBx.out hq
      have HSt : Hid (odS p m l (i + 1) = odX p m i y (fun a => (l.getD a noE).born) o) := by show _ = _; rw [odS_next, ← HO.out, ← hy]
      by_cases he : y.peer = p
      · have hq : (y.peer == p) = true := by simp [he]
        by_cases hm : y.msg = m
        · have hq2 : (y.msg == m) = true := by simp [hm]
          have hq3 : (y.msg != m) = false := by simp [hm]
          have HO2 : Hid (o = odS p m l (i + 1)) := by
            show _ = _
            rw [HSt.out, odX_no (by simp [otE, hm])]
          clear HSt hy hbo he hm hil hRr
          go_wp2_with fail
          go_quiet (fail)
          have HBq : Hid (Below w1.heap.size w1 (wr.drewN nq)) := HBN.out _ (below_drewN19 (Below.refl _ _) nq)
          generalize wr.drewN nq = wq at HBq ⊢
          go_wp2
          go_roundw
          case rel => exact ⟨i + 1, o, by omega, by go_num, rfl, HO2, HBq⟩
          case measure => simp [intOf] <;> omega
        · have hq2 : (y.msg == m) = false := by simp [hm]
          have hq3 : (y.msg != m) = true := by simp [hm]
          have hot : otE p m y = true := by simp [otE, he, hm]
          cases o with
          | none =>
            have HO2 : Hid (some i = odS p m l (i + 1)) := by show _ = _; rw [HSt.out, odX_none hot]
            have e0 : oI none = -1 := rfl
            clear HSt hy hbo he hm hil hot hRr
            go_wp2_with fail
            go_quiet (fail)
            have HBq : Hid (Below w1.heap.size w1 (wr.drewN nq)) := HBN.out _ (below_drewN19 (Below.refl _ _) nq)
            generalize wr.drewN nq = wq at HBq ⊢
            go_wp2
            go_roundw
            case rel => exact ⟨i + 1, some i, by omega, by go_num, rfl, HO2, HBq⟩
            case measure => simp [intOf] <;> omega
          | some a =>
            have ha := (odS_lt HO.out.symm).1
            obtain ⟨b2, off2, -, -, e2, -, -, q22, -, -⟩ := hRr.at (show a < l.length by omega)
            simp only [Option.some.injEq, Addr.mk.injEq, and_true] at e2
            obtain ⟨rfl, rfl⟩ := e2
            obtain ⟨ba, hba⟩ : ∃ b : Nat, b = (l.getD a noE).born := ⟨_, rfl⟩
            rw [← hba] at q22
            have HSt2 : Hid (odS p m l (i + 1) = if bo < ba then some i else some a) := by show _ = _; rw [HSt.out, odX_some hot, hbo, hba]
            have e0 : oI (some a) = (a : Int) := rfl
            have ha1 : (a : Int) < (n : Int) := by omega
            have ha0 : decide ((a : Int) < 0) = false := decide_eq_false (by omega)
            have hways : (decide (bo < ba) = true ∧ Hid (some i = odS p m l (i + 1))) ∨ (decide (bo < ba) = false ∧ Hid (some a = odS p m l (i + 1))) := by
              by_cases h : bo < ba
              · exact .inl ⟨decide_eq_true h, by show _ = _; rw [HSt2.out]; simp [h]⟩
              · exact .inr ⟨decide_eq_false h, by show _ = _; rw [HSt2.out]; simp [h]⟩
            clear HSt HSt2 hy hbo he hm hil hot hRr hba
            rcases hways with ⟨hbb, HO2⟩ | ⟨hbb, HO2⟩
            · go_wp2_with fail
              go_quiet (fail)
              have HBq : Hid (Below w1.heap.size w1 (wr.drewN nq)) := HBN.out _ (below_drewN19 (Below.refl _ _) nq)
              generalize wr.drewN nq = wq at HBq ⊢
              go_wp2
              go_roundw
              case rel => exact ⟨i + 1, some i, by omega, by go_num, rfl, HO2, HBq⟩
              case measure => simp [intOf] <;> omega
            · go_wp2_with fail
              go_quiet (fail)
              have HBq : Hid (Below w1.heap.size w1 (wr.drewN nq)) := HBN.out _ (below_drewN19 (Below.refl _ _) nq)
              generalize wr.drewN nq = wq at HBq ⊢
              go_wp2
              go_roundw
              case rel => exact ⟨i + 1, some a, by omega, by go_num, rfl, HO2, HBq⟩
              case measure => simp [intOf] <;> omega
      · have hq : (y.peer == p) = false := by simp [he]
        have HO2 : Hid (o = odS p m l (i + 1)) := by
          show _ = _
          rw [HSt.out, odX_no (by simp [otE, he])]
        clear HSt hy hbo he hil hRr
        go_wp2_with fail
        go_quiet (fail)
        have HBq : Hid (Below w1.heap.size w1 (wr.drewN nq)) := HBN.out _ (below_drewN19 (Below.refl _ _) nq)
        generalize wr.drewN nq = wq at HBq ⊢
        go_wp2
        go_roundw
        case rel => exact ⟨i + 1, o, by omega, by go_num, rfl, HO2, HBq⟩
        case measure => simp [intOf] <;> omega
    · have hd : decide ((i : Int) < (n : Int)) = false := decide_eq_false (by omega)
      have HF : Hid (odN p m l = o) := by
        show _ = _
        rw [HO.out, odN, show l.length = i by have := HN.out; omega]
      have HBF : Hid (Below w.heap.size w wr) := stepB HB1.out HBx.out
      go_wp2
      go_ret
      exact ⟨by rw [HF.out]; rfl, HBF.out⟩
set_option maxHeartbeats 2000000 in
theorem least19_any (x : Int) (w : World) : Calls Try.prog 25 #[.int .i64 x] w fun r w' => r = .returned (.int .i64 (lsN x)) ∧ w' = w := by
  by_cases h : x < 0
  · have hd : decide (x < 0) = true := decide_eq_true h
    have HE : Hid (lsN x = 0) := if_pos h
    rw [HE.out]
    go_enter Try.func25, Try.ntmps25
    go_wp2
    go_ret
    exact ⟨rfl, rfl⟩
  · have hd : decide (x < 0) = false := decide_eq_false h
    have HE : Hid (lsN x = x) := if_neg h
    rw [HE.out]
    go_enter Try.func25, Try.ntmps25
    go_wp2
    go_ret
    exact ⟨rfl, rfl⟩
theorem build_bf (x y : Int) (g : Nat) (w : World) : (Instr.build 40 #[(0, .int .i64 x), (1, .int .i64 y), (2, .int .u64 (g : Int))]).run Try.prog w = .ok (.agg (bfD ⟨x, y, g, []⟩ (.slice none 0 0)).toArray) w := by kernel_rfl
set_option maxRecDepth 100000 in
set_option maxHeartbeats 2000000 in
theorem new19_any (x y : Int) (g : Nat) (w : World) : Calls Try.prog 12 #[.int .i64 x, .int .i64 y, .int .u64 (g : Int)] w fun r w' => r = .returned (.agg (bfD (nwF x y g) (.slice none 0 0)).toArray) ∧ Below w.heap.size w w' := by
  have HX : Hid (∀ w : World, _) := least19_any x
  have HY : Hid (∀ w : World, _) := least19_any y
  unfold nwF
  generalize lsN x = x' at HX ⊢
  generalize lsN y = y' at HY ⊢
  go_enter Try.func12, Try.ntmps12
  go_wp2_with (refine wpList_alloc_blk rfl 40 rfl zbD (alloc_bf _) ?_)
  intro w1 r1 b1 s1
  have HB1 : Hid (Below w.heap.size w w1) := b1
  clear b1 s1
  go_wp2_with fail
  refine (HX.out _).mono ?_
  rintro e w2 ⟨rfl, rfl⟩
  go_wp2_with fail
  refine (HY.out _).mono ?_
  rintro e w3 ⟨rfl, rfl⟩
  go_wp2_with (first
    | refine wpList_buildB rfl 40 _ rfl #[(0, .int .i64 x'), (1, .int .i64 y'), (2, .int .u64 (g : Int))] (by go_simp) _ (build_bf _ _ _ _) ?_
    | (refine wpList_store_part rfl 40 _ _ rfl rfl (bfD ⟨x', y', g, []⟩ (.slice none 0 0)) rfl [] zbD [] (bfD ⟨x', y', g, []⟩ (.slice none 0 0)) r1 rfl rfl rfl rfl (infoBf ⟨x', y', g, []⟩ (.slice none 0 0)) (bfD_one _ _ _ _) ?_; intro w6 r6 hw6))
  refine bodyPost_blk rfl rfl rfl r6 Try.underlying40 rfl (infoBf _ _) ?_
  exact ⟨rfl, hw6.below _ _ (Nat.le_refl _) HB1.out⟩
end Go.Proofs.Ytkljklfejaojaaa
