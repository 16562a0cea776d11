/- What Pi and Chi answer: contracts of package keccak, fourth part. -/
import Derived.Test.YtlcnepnappfjeaaDoorK02b
namespace Go.Proofs.YtlcnepnappfjeaaDoor
open Go.ChangeShapes Go.WideShapes Go.ChangeAt Go.RowKit
set_option linter.unusedSimpArgs false
set_option linter.unusedVariables false

set_option maxRecDepth 100000 in
set_option maxHeartbeats 2000000 in
theorem kPi_any (A : Array Value) (f : Nat → Nat) (hf : ∀ i, f i < 18446744073709551616) (hA : A = ((stL f).map (Value.int .u64)).toArray) (w : World) (ht : Tabs w) :
    Calls Tryd.prog 72 #[.agg A] w fun e w' => e = .returned (arrV (piF f)) ∧ Below w.heap.size w w' := by
  have HA : Hid _ := hA
  have HF : Hid (∀ i, f i < 18446744073709551616) := hf
  clear hA hf
  go_enter Tryd.func72, Tryd.ntmps72
  go_wp2
  rw [HA.out]
  obtain ⟨W, hW, hI, hs⟩ := two_rows f w _ zeros25 ht
  rw [hW]
  clear hW ht
  have ro : RowAt .u64 66 (w.heap.size + 2) 25 (stL fun _ => 0) (W.alloc (.cells #[Value.int .u64 0, .int .u64 0, .int .u64 0, .int .u64 0, .int .u64 0, .int .u64 0, .int .u64 0, .int .u64 0, .int .u64 0, .int .u64 0, .int .u64 0, .int .u64 0, .int .u64 0, .int .u64 0, .int .u64 0, .int .u64 0, .int .u64 0, .int .u64 0, .int .u64 0, .int .u64 0, .int .u64 0, .int .u64 0, .int .u64 0, .int .u64 0, .int .u64 0] 66)) :=
    RowAt.fresh _ zeros25 hs.symm (stL_length _).symm (stL_ne _) (by rw [stL_length]; simp [maxLen])
  have hI1 := hI.alloc (.cells #[Value.int .u64 0, .int .u64 0, .int .u64 0, .int .u64 0, .int .u64 0, .int .u64 0, .int .u64 0, .int .u64 0, .int .u64 0, .int .u64 0, .int .u64 0, .int .u64 0, .int .u64 0, .int .u64 0, .int .u64 0, .int .u64 0, .int .u64 0, .int .u64 0, .int .u64 0, .int .u64 0, .int .u64 0, .int .u64 0, .int .u64 0, .int .u64 0, .int .u64 0] 66)
  generalize W.alloc (.cells #[Value.int .u64 0, .int .u64 0, .int .u64 0, .int .u64 0, .int .u64 0, .int .u64 0, .int .u64 0, .int .u64 0, .int .u64 0, .int .u64 0, .int .u64 0, .int .u64 0, .int .u64 0, .int .u64 0, .int .u64 0, .int .u64 0, .int .u64 0, .int .u64 0, .int .u64 0, .int .u64 0, .int .u64 0, .int .u64 0, .int .u64 0, .int .u64 0, .int .u64 0] 66) = W1 at ro hI1
  rw [upQ_zero (fun _ => 0) (piF f)] at ro
  clear hI hs
  go_loopw [6] (fun i wr => ∃ Y : Nat, Y ≤ 5 ∧ i = .int .i64 Y ∧ KI w f wr ∧ RowAt .u64 66 (w.heap.size + 2) 25 (stL (upQ (fun _ => 0) (piF f) (5 * Y))) wr) (fun i _ => 5 - (intOf i).toNat)
  case atStart => exact ⟨0, by omega, rfl, hI1, ro⟩
  case round =>
    obtain ⟨Y, hY, rfl, hI2, ro2⟩ := hrel
    clear hI1 ro
    by_cases hlt : Y < 5
    · have hd : decide ((Y : Int) < 5) = true := decide_eq_true (by omega)
      have hYI : (Y : Int) < 5 := by omega
      go_wp2
      go_loopw [9] (fun i wr => ∃ X : Nat, X ≤ 5 ∧ i = .int .i64 X ∧ KI w f wr ∧ RowAt .u64 66 (w.heap.size + 2) 25 (stL (upQ (fun _ => 0) (piF f) (X + 5 * Y))) wr) (fun i _ => 5 - (intOf i).toNat)
      case atStart => exact ⟨0, by omega, rfl, hI2, by rw [Nat.zero_add]; exact ro2⟩
      case round =>
        obtain ⟨X, hX, rfl, hI3, ro3⟩ := hrel
        clear hI2 ro2
        by_cases hXlt : X < 5
        · have hd2 : decide ((X : Int) < 5) = true := decide_eq_true (by omega)
          have hXI : (X : Int) < 5 := by omega
          obtain ⟨m, hm⟩ : ∃ m : Nat, m = (X + 3 * Y) % 5 := ⟨_, rfl⟩
          have bm : (m : Int) < 5 := by omega
          have hc := hI3.a.cell (j := m + 5 * X) (by rw [stL_length]; omega)
          rw [stL_get _ _ (by omega)] at hc
          have ho := ro3.cell (j := X + 5 * Y) (by rw [stL_length]; omega)
          have hof := ro3.free (X + 5 * Y)
          have HS : Hid (∀ x : Int, x = ((f (m + 5 * X) : Nat) : Int) → RowAt .u64 66 (w.heap.size + 2) 25 (stL (upQ (fun _ => 0) (piF f) (X + 1 + 5 * Y))) (wr.setCell ⟨w.heap.size + 2, X + 5 * Y, none⟩ (.int .u64 x)) ∧ KI w f (wr.setCell ⟨w.heap.size + 2, X + 5 * Y, none⟩ (.int .u64 x))) := by
            intro x hx
            refine ⟨?_, hI3.other (Wrote.set _ _ wr _) (Nat.le_refl _)⟩
            have e : f (m + 5 * X) = piF f (X + 5 * Y) := by
              unfold piF
              rw [show (X + 5 * Y) % 5 = X by omega, show (X + 5 * Y) / 5 = Y by omega, hm]
            rw [show X + 1 + 5 * Y = (X + 5 * Y) + 1 by omega, ← upQ_set, ← e, ← hx]
            exact ro3.set _ x
          generalize f (m + 5 * X) = q0 at hc HS
          generalize (stL (upQ (fun _ => 0) (piF f) (X + 5 * Y))).getD (X + 5 * Y) 0 = q1 at ho
          have w5 : IntKind.i64.wrap (5 * (Y : Int)) = 5 * (Y : Int) := IntWalk.i64_in _ (by omega)
          have wX : IntKind.i64.wrap ((X : Int) + 5 * (Y : Int)) = (X : Int) + 5 * (Y : Int) := IntWalk.i64_in _ (by omega)
          have nX : ((X : Int) + 5 * (Y : Int)).toNat = X + 5 * Y := by omega
          have pX : 0 ≤ (X : Int) + 5 * (Y : Int) := by omega
          have lX : (X : Int) + 5 * (Y : Int) < 25 := by omega
          have w3 : IntKind.i64.wrap (3 * (Y : Int)) = 3 * (Y : Int) := IntWalk.i64_in _ (by omega)
          have wS : IntKind.i64.wrap ((X : Int) + 3 * (Y : Int)) = (X : Int) + 3 * (Y : Int) := IntWalk.i64_in _ (by omega)
          have tS : ((X : Int) + 3 * (Y : Int)).tmod 5 = (m : Int) := by rw [Int.tmod_eq_emod_of_nonneg (by omega)]; omega
          have uS : ((X : Int) + 3 * (Y : Int)) % 5 = (m : Int) := by omega
          have w5X : IntKind.i64.wrap (5 * (X : Int)) = 5 * (X : Int) := IntWalk.i64_in _ (by omega)
          have wM : IntKind.i64.wrap ((m : Int) + 5 * (X : Int)) = (m : Int) + 5 * (X : Int) := IntWalk.i64_in _ (by omega)
          have nM : ((m : Int) + 5 * (X : Int)).toNat = m + 5 * X := by omega
          have pM : 0 ≤ (m : Int) + 5 * (X : Int) := by omega
          have lM : (m : Int) + 5 * (X : Int) < 25 := by omega
          clear hI3 ro3 hm
          go_wp2
          obtain ⟨ro4, hI4⟩ := HS.out _ rfl
          go_roundw
          case rel => exact ⟨X + 1, by omega, by go_num, hI4, ro4⟩
          case measure => simp [intOf]; omega
        · have hXe : X = 5 := by omega
          subst hXe
          rw [show 5 + 5 * Y = 5 * (Y + 1) by omega] at ro3
          go_wp2
          go_roundw
          case rel => exact ⟨Y + 1, by omega, by go_num, hI3, ro3⟩
          case measure => simp [intOf]; omega
    · have hYe : Y = 5 := by omega
      subst hYe
      have r1 := ro2
      rw [upQ_done] at r1
      have r2 := hI2.r
      go_wp2_with (first | refine wpList_load_row rfl 66 _ rfl rfl r1 _ Tryd.underlying66 rfl (arrInfo _) ?_ | (refine wpList_store_row rfl 66 _ _ rfl (stL (piF f)) rfl rfl r2 (by simp [stL_length]) (arrInfo _) ?_; intro w2 r3 hw))
      refine bodyPost_row (p := 2) (ty := 66) rfl rfl rfl r3 Tryd.underlying66 rfl (arrInfo _) ?_
      exact ⟨rfl, hw.below _ _ (by omega) hI2.b⟩

theorem chi_val (f : Nat → Nat) (hf : ∀ i, f i < 18446744073709551616) (X Y : Nat) (hX : X < 5) (m1 m2 : Nat) (h1 : m1 = (X + 1) % 5) (h2 : m2 = (X + 2) % 5) :
    bits .xor .u64 ((f (5 * Y + X) : Nat) : Int) (bits .and .u64 (bits .xor .u64 (if IntKind.u64.signed = true then -1 else IntKind.u64.max) ((f (5 * Y + m1) : Nat) : Int)) ((f (5 * Y + m2) : Nat) : Int)) = ((chL f (5 * Y + X) : Nat) : Int) := by
  have e1 : 5 * Y + X - (5 * Y + X) % 5 + ((5 * Y + X) % 5 + 1) % 5 = 5 * Y + m1 := by omega
  have e2 : 5 * Y + X - (5 * Y + X) % 5 + ((5 * Y + X) % 5 + 2) % 5 = 5 * Y + m2 := by omega
  unfold chL
  rw [e1, e2, sub_and]
  have b1 := hf (5 * Y + m1)
  have b2 := hf (5 * Y + m2)
  have b0 := hf (5 * Y + X)
  generalize f (5 * Y + m1) = p at b1
  generalize f (5 * Y + m2) = q at b2
  generalize f (5 * Y + X) = r at b0
  have en : bits .xor .u64 (if IntKind.u64.signed = true then -1 else IntKind.u64.max) (p : Int) = ((18446744073709551615 ^^^ p : Nat) : Int) := xorI 18446744073709551615 p (by decide) b1
  rw [en, andI _ _ (xor_lt64 (by decide) b1) b2]
  have ea : (18446744073709551615 ^^^ p) &&& q = q ^^^ (q &&& p) := by
    apply Nat.eq_of_testBit_eq
    intro i
    rw [Nat.testBit_and, Nat.testBit_xor, Nat.testBit_xor, Nat.testBit_and, show (18446744073709551615 : Nat) = 2 ^ 64 - 1 from rfl, Nat.testBit_two_pow_sub_one]
    by_cases hi : i < 64
    · simp only [hi, decide_true]
      cases p.testBit i <;> cases q.testBit i <;> rfl
    · have hq : q.testBit i = false := Nat.testBit_lt_two_pow (Nat.lt_of_lt_of_le b2 (Nat.pow_le_pow_right (show 0 < 2 by decide) (by omega : 64 ≤ i)))
      rw [hq]
      simp
  rw [ea, xorI _ _ b0 (by
    have h : q &&& p ≤ q := Nat.and_le_left
    exact xor_lt64 b2 (by omega))]

set_option maxRecDepth 100000 in
set_option maxHeartbeats 2000000 in
theorem kChi_any (A : Array Value) (f : Nat → Nat) (hf : ∀ i, f i < 18446744073709551616) (hA : A = ((stL f).map (Value.int .u64)).toArray) (w : World) (ht : Tabs w) :
    Calls Tryd.prog 71 #[.agg A] w fun e w' => e = .returned (arrV (chL f)) ∧ Below w.heap.size w w' := by
  have HA : Hid _ := hA
  have HF : Hid (∀ i, f i < 18446744073709551616) := hf
  clear hA hf
  go_enter Tryd.func71, Tryd.ntmps71
  go_wp2
  rw [HA.out]
  obtain ⟨W, hW, hI, hs⟩ := two_rows f w _ zeros25 ht
  rw [hW]
  clear hW ht
  have ro : RowAt .u64 66 (w.heap.size + 2) 25 (stL fun _ => 0) (W.alloc (.cells #[Value.int .u64 0, .int .u64 0, .int .u64 0, .int .u64 0, .int .u64 0, .int .u64 0, .int .u64 0, .int .u64 0, .int .u64 0, .int .u64 0, .int .u64 0, .int .u64 0, .int .u64 0, .int .u64 0, .int .u64 0, .int .u64 0, .int .u64 0, .int .u64 0, .int .u64 0, .int .u64 0, .int .u64 0, .int .u64 0, .int .u64 0, .int .u64 0, .int .u64 0] 66)) :=
    RowAt.fresh _ zeros25 hs.symm (stL_length _).symm (stL_ne _) (by rw [stL_length]; simp [maxLen])
  have hI1 := hI.alloc (.cells #[Value.int .u64 0, .int .u64 0, .int .u64 0, .int .u64 0, .int .u64 0, .int .u64 0, .int .u64 0, .int .u64 0, .int .u64 0, .int .u64 0, .int .u64 0, .int .u64 0, .int .u64 0, .int .u64 0, .int .u64 0, .int .u64 0, .int .u64 0, .int .u64 0, .int .u64 0, .int .u64 0, .int .u64 0, .int .u64 0, .int .u64 0, .int .u64 0, .int .u64 0] 66)
  generalize W.alloc (.cells #[Value.int .u64 0, .int .u64 0, .int .u64 0, .int .u64 0, .int .u64 0, .int .u64 0, .int .u64 0, .int .u64 0, .int .u64 0, .int .u64 0, .int .u64 0, .int .u64 0, .int .u64 0, .int .u64 0, .int .u64 0, .int .u64 0, .int .u64 0, .int .u64 0, .int .u64 0, .int .u64 0, .int .u64 0, .int .u64 0, .int .u64 0, .int .u64 0, .int .u64 0] 66) = W1 at ro hI1
  rw [upQ_zero (fun _ => 0) (chL f)] at ro
  clear hI hs
  go_loopw [7] (fun i wr => ∃ Y : Nat, Y ≤ 5 ∧ i = .int .i64 Y ∧ KI w f wr ∧ RowAt .u64 66 (w.heap.size + 2) 25 (stL (upQ (fun _ => 0) (chL f) (5 * Y))) wr) (fun i _ => 5 - (intOf i).toNat)
  case atStart => exact ⟨0, by omega, rfl, hI1, ro⟩
  case round =>
    obtain ⟨Y, hY, rfl, hI2, ro2⟩ := hrel
    clear hI1 ro
    by_cases hlt : Y < 5
    · have hd : decide ((Y : Int) < 5) = true := decide_eq_true (by omega)
      have hYI : (Y : Int) < 5 := by omega
      have w5 : IntKind.i64.wrap (5 * (Y : Int)) = 5 * (Y : Int) := IntWalk.i64_in _ (by omega)
      go_wp2
      go_loopw [12] (fun i wr => ∃ X : Nat, X ≤ 5 ∧ i = .int .i64 X ∧ KI w f wr ∧ RowAt .u64 66 (w.heap.size + 2) 25 (stL (upQ (fun _ => 0) (chL f) (5 * Y + X))) wr) (fun i _ => 5 - (intOf i).toNat)
      case atStart => exact ⟨0, by omega, rfl, hI2, ro2⟩
      case round =>
        obtain ⟨X, hX, rfl, hI3, ro3⟩ := hrel
        clear hI2 ro2
        by_cases hXlt : X < 5
        · have hd2 : decide ((X : Int) < 5) = true := decide_eq_true (by omega)
          have hXI : (X : Int) < 5 := by omega
          obtain ⟨m1, hm1⟩ : ∃ m : Nat, m = (X + 1) % 5 := ⟨_, rfl⟩
          obtain ⟨m2, hm2⟩ : ∃ m : Nat, m = (X + 2) % 5 := ⟨_, rfl⟩
          have b1 : (m1 : Int) < 5 := by omega
          have b2 : (m2 : Int) < 5 := by omega
          have hc := hI3.a.cell (j := 5 * Y + X) (by rw [stL_length]; omega)
          have hc1 := hI3.a.cell (j := 5 * Y + m1) (by rw [stL_length]; omega)
          have hc2 := hI3.a.cell (j := 5 * Y + m2) (by rw [stL_length]; omega)
          rw [stL_get _ _ (by omega)] at hc hc1 hc2
          have ho := ro3.cell (j := 5 * Y + X) (by rw [stL_length]; omega)
          have hof := ro3.free (5 * Y + X)
          have HX : Hid _ := chi_val f HF.out X Y hXlt m1 m2 hm1 hm2
          have HS : Hid (∀ x : Int, x = ((chL f (5 * Y + X) : Nat) : Int) → RowAt .u64 66 (w.heap.size + 2) 25 (stL (upQ (fun _ => 0) (chL f) (5 * Y + (X + 1)))) (wr.setCell ⟨w.heap.size + 2, 5 * Y + X, none⟩ (.int .u64 x)) ∧ KI w f (wr.setCell ⟨w.heap.size + 2, 5 * Y + X, none⟩ (.int .u64 x))) := by
            intro x hx
            refine ⟨?_, hI3.other (Wrote.set _ _ wr _) (Nat.le_refl _)⟩
            rw [show 5 * Y + (X + 1) = (5 * Y + X) + 1 by omega, ← upQ_set, ← hx]
            exact ro3.set _ x
          generalize f (5 * Y + X) = q0 at hc HX
          generalize f (5 * Y + m1) = q1 at hc1 HX
          generalize f (5 * Y + m2) = q2 at hc2 HX
          generalize (stL (upQ (fun _ => 0) (chL f) (5 * Y + X))).getD (5 * Y + X) 0 = q3 at ho
          have v1 : IntKind.i64.wrap ((X : Int) + 1) = (X : Int) + 1 := IntWalk.i64_in _ (by omega)
          have v2 : IntKind.i64.wrap ((X : Int) + 2) = (X : Int) + 2 := IntWalk.i64_in _ (by omega)
          have t1 : ((X : Int) + 1).tmod 5 = (m1 : Int) := by rw [Int.tmod_eq_emod_of_nonneg (by omega)]; omega
          have t2 : ((X : Int) + 2).tmod 5 = (m2 : Int) := by rw [Int.tmod_eq_emod_of_nonneg (by omega)]; omega
          have u1 : ((X : Int) + 1) % 5 = (m1 : Int) := by omega
          have u2 : ((X : Int) + 2) % 5 = (m2 : Int) := by omega
          have wX : IntKind.i64.wrap (5 * (Y : Int) + (X : Int)) = 5 * (Y : Int) + (X : Int) := IntWalk.i64_in _ (by omega)
          have w1 : IntKind.i64.wrap (5 * (Y : Int) + (m1 : Int)) = 5 * (Y : Int) + (m1 : Int) := IntWalk.i64_in _ (by omega)
          have w2 : IntKind.i64.wrap (5 * (Y : Int) + (m2 : Int)) = 5 * (Y : Int) + (m2 : Int) := IntWalk.i64_in _ (by omega)
          have nX : (5 * (Y : Int) + (X : Int)).toNat = 5 * Y + X := by omega
          have n1 : (5 * (Y : Int) + (m1 : Int)).toNat = 5 * Y + m1 := by omega
          have n2 : (5 * (Y : Int) + (m2 : Int)).toNat = 5 * Y + m2 := by omega
          have pX : 0 ≤ 5 * (Y : Int) + (X : Int) := by omega
          have p1 : 0 ≤ 5 * (Y : Int) + (m1 : Int) := by omega
          have p2 : 0 ≤ 5 * (Y : Int) + (m2 : Int) := by omega
          have lX : 5 * (Y : Int) + (X : Int) < 25 := by omega
          have l1 : 5 * (Y : Int) + (m1 : Int) < 25 := by omega
          have l2 : 5 * (Y : Int) + (m2 : Int) < 25 := by omega
          clear hI3 ro3 hm1 hm2
          go_wp2_with fail
          refine wpE_begin 26 (by kernel_rfl) ?_
          refine wpE_take (i := 0) (oi := { dst := some 15, op := Op.move (Operand.tmp 5), type := 3, pos := "keccak.go:73", after := #[], guard := none }) (v := ?_) rfl (by decide) (by kernel_rfl) (by kernel_rfl) (by kernel_rfl) (by kernel_rfl) (by rfl) ?_ ?_
          rotate_left
          · intro W hW; first | (go_simp; done) | (go_simp; with_reducible rfl)
          try simp only [Act.put, List.setIfInBounds_toArray, List.set_cons_zero, List.set_cons_succ]
          refine wpE_take (i := 1) (oi := { dst := some 16, op := Op.move (Operand.tmp 6), type := 3, pos := "keccak.go:73", after := #[], guard := none }) (v := ?_) rfl (by decide) (by kernel_rfl) (by kernel_rfl) (by kernel_rfl) (by kernel_rfl) (by rfl) ?_ ?_
          rotate_left
          · intro W hW; first | (go_simp; done) | (go_simp; with_reducible rfl)
          try simp only [Act.put, List.setIfInBounds_toArray, List.set_cons_zero, List.set_cons_succ]
          refine wpE_take (i := 2) (oi := { dst := some 17, op := Op.binOp BinOp.add 3 (Operand.tmp 15) (Operand.tmp 16) 3, type := 3, pos := "keccak.go:73", after := #[{ on := 0, ground := Ground.data }, { on := 1, ground := Ground.data }], guard := none }) (v := ?_) rfl (by decide) (by kernel_rfl) (by kernel_rfl) (by kernel_rfl) (by kernel_rfl) (by rfl) ?_ ?_
          rotate_left
          · intro W hW; first | (go_simp; done) | (go_simp; with_reducible rfl)
          try simp only [Act.put, List.setIfInBounds_toArray, List.set_cons_zero, List.set_cons_succ]
          refine wpE_take (i := 3) (oi := { dst := some 18, op := Op.move (Operand.tmp 5), type := 3, pos := "keccak.go:73", after := #[], guard := none }) (v := ?_) rfl (by decide) (by kernel_rfl) (by kernel_rfl) (by kernel_rfl) (by kernel_rfl) (by rfl) ?_ ?_
          rotate_left
          · intro W hW; first | (go_simp; done) | (go_simp; with_reducible rfl)
          try simp only [Act.put, List.setIfInBounds_toArray, List.set_cons_zero, List.set_cons_succ]
          refine wpE_take (i := 4) (oi := { dst := some 19, op := Op.move (Operand.tmp 6), type := 3, pos := "keccak.go:73", after := #[], guard := none }) (v := ?_) rfl (by decide) (by kernel_rfl) (by kernel_rfl) (by kernel_rfl) (by kernel_rfl) (by rfl) ?_ ?_
          rotate_left
          · intro W hW; first | (go_simp; done) | (go_simp; with_reducible rfl)
          try simp only [Act.put, List.setIfInBounds_toArray, List.set_cons_zero, List.set_cons_succ]
          refine wpE_take (i := 5) (oi := { dst := some 20, op := Op.binOp BinOp.add 3 (Operand.tmp 18) (Operand.tmp 19) 3, type := 3, pos := "keccak.go:73", after := #[{ on := 3, ground := Ground.data }, { on := 4, ground := Ground.data }], guard := none }) (v := ?_) rfl (by decide) (by kernel_rfl) (by kernel_rfl) (by kernel_rfl) (by kernel_rfl) (by rfl) ?_ ?_
          rotate_left
          · intro W hW; first | (go_simp; done) | (go_simp; with_reducible rfl)
          try simp only [Act.put, List.setIfInBounds_toArray, List.set_cons_zero, List.set_cons_succ]
          refine wpE_take (i := 6) (oi := { dst := some 21, op := Op.indexAddr 66 (Operand.tmp 1) (Operand.tmp 20), type := 0, pos := "keccak.go:73", after := #[{ on := 5, ground := Ground.data }], guard := none }) (v := ?_) rfl (by decide) (by kernel_rfl) (by kernel_rfl) (by kernel_rfl) (by kernel_rfl) (by rfl) ?_ ?_
          rotate_left
          · intro W hW; first | (go_simp; done) | (go_simp; with_reducible rfl)
          try simp only [Act.put, List.setIfInBounds_toArray, List.set_cons_zero, List.set_cons_succ]
          refine wpE_take (i := 7) (oi := { dst := some 22, op := Op.load 65 (Operand.tmp 21), type := 65, pos := "keccak.go:73", after := #[{ on := 6, ground := Ground.data }], guard := none }) (v := ?_) rfl (by decide) (by kernel_rfl) (by kernel_rfl) (by kernel_rfl) (by kernel_rfl) (by rfl) ?_ ?_
          rotate_left
          · intro W hW; have hcW := cellU hc hW; first | (go_simp; done) | (go_simp; with_reducible rfl)
          try simp only [Act.put, List.setIfInBounds_toArray, List.set_cons_zero, List.set_cons_succ]
          refine wpE_take (i := 8) (oi := { dst := some 23, op := Op.move (Operand.tmp 5), type := 3, pos := "keccak.go:73", after := #[], guard := none }) (v := ?_) rfl (by decide) (by kernel_rfl) (by kernel_rfl) (by kernel_rfl) (by kernel_rfl) (by rfl) ?_ ?_
          rotate_left
          · intro W hW; first | (go_simp; done) | (go_simp; with_reducible rfl)
          try simp only [Act.put, List.setIfInBounds_toArray, List.set_cons_zero, List.set_cons_succ]
          refine wpE_take (i := 9) (oi := { dst := some 24, op := Op.move (Operand.tmp 6), type := 3, pos := "keccak.go:73", after := #[], guard := none }) (v := ?_) rfl (by decide) (by kernel_rfl) (by kernel_rfl) (by kernel_rfl) (by kernel_rfl) (by rfl) ?_ ?_
          rotate_left
          · intro W hW; first | (go_simp; done) | (go_simp; with_reducible rfl)
          try simp only [Act.put, List.setIfInBounds_toArray, List.set_cons_zero, List.set_cons_succ]
          refine wpE_take (i := 10) (oi := { dst := some 25, op := Op.binOp BinOp.add 3 (Operand.tmp 24) (Operand.const (Value.int IntKind.i64 1)) 3, type := 3, pos := "keccak.go:73", after := #[{ on := 9, ground := Ground.data }], guard := none }) (v := ?_) rfl (by decide) (by kernel_rfl) (by kernel_rfl) (by kernel_rfl) (by kernel_rfl) (by rfl) ?_ ?_
          rotate_left
          · intro W hW; first | (go_simp; done) | (go_simp; with_reducible rfl)
          try simp only [Act.put, List.setIfInBounds_toArray, List.set_cons_zero, List.set_cons_succ]
          refine wpE_take (i := 11) (oi := { dst := some 26, op := Op.binOp BinOp.rem 3 (Operand.tmp 25) (Operand.const (Value.int IntKind.i64 5)) 3, type := 3, pos := "keccak.go:73", after := #[{ on := 10, ground := Ground.data }], guard := none }) (v := ?_) rfl (by decide) (by kernel_rfl) (by kernel_rfl) (by kernel_rfl) (by kernel_rfl) (by rfl) ?_ ?_
          rotate_left
          · intro W hW; first | (go_simp; done) | (go_simp; with_reducible rfl)
          try simp only [Act.put, List.setIfInBounds_toArray, List.set_cons_zero, List.set_cons_succ]
          refine wpE_take (i := 12) (oi := { dst := some 27, op := Op.binOp BinOp.add 3 (Operand.tmp 23) (Operand.tmp 26) 3, type := 3, pos := "keccak.go:73", after := #[{ on := 8, ground := Ground.data }, { on := 11, ground := Ground.data }], guard := none }) (v := ?_) rfl (by decide) (by kernel_rfl) (by kernel_rfl) (by kernel_rfl) (by kernel_rfl) (by rfl) ?_ ?_
          rotate_left
          · intro W hW; first | (go_simp; done) | (go_simp; with_reducible rfl)
          try simp only [Act.put, List.setIfInBounds_toArray, List.set_cons_zero, List.set_cons_succ]
          refine wpE_take (i := 13) (oi := { dst := some 28, op := Op.indexAddr 66 (Operand.tmp 1) (Operand.tmp 27), type := 0, pos := "keccak.go:73", after := #[{ on := 12, ground := Ground.data }], guard := none }) (v := ?_) rfl (by decide) (by kernel_rfl) (by kernel_rfl) (by kernel_rfl) (by kernel_rfl) (by rfl) ?_ ?_
          rotate_left
          · intro W hW; first | (go_simp; done) | (go_simp; with_reducible rfl)
          try simp only [Act.put, List.setIfInBounds_toArray, List.set_cons_zero, List.set_cons_succ]
          refine wpE_take (i := 14) (oi := { dst := some 29, op := Op.load 65 (Operand.tmp 28), type := 65, pos := "keccak.go:73", after := #[{ on := 13, ground := Ground.data }], guard := none }) (v := ?_) rfl (by decide) (by kernel_rfl) (by kernel_rfl) (by kernel_rfl) (by kernel_rfl) (by rfl) ?_ ?_
          rotate_left
          · intro W hW; have hcW := cellU hc1 hW; first | (go_simp; done) | (go_simp; with_reducible rfl)
          try simp only [Act.put, List.setIfInBounds_toArray, List.set_cons_zero, List.set_cons_succ]
          refine wpE_take (i := 15) (oi := { dst := some 30, op := Op.unOp UnOp.xor 65 (Operand.tmp 29), type := 65, pos := "keccak.go:73", after := #[{ on := 14, ground := Ground.data }], guard := none }) (v := ?_) rfl (by decide) (by kernel_rfl) (by kernel_rfl) (by kernel_rfl) (by kernel_rfl) (by rfl) ?_ ?_
          rotate_left
          · intro W hW; first | (go_simp; done) | (go_simp; with_reducible rfl)
          try simp only [Act.put, List.setIfInBounds_toArray, List.set_cons_zero, List.set_cons_succ]
          refine wpE_take (i := 16) (oi := { dst := some 31, op := Op.move (Operand.tmp 5), type := 3, pos := "keccak.go:73", after := #[], guard := none }) (v := ?_) rfl (by decide) (by kernel_rfl) (by kernel_rfl) (by kernel_rfl) (by kernel_rfl) (by rfl) ?_ ?_
          rotate_left
          · intro W hW; first | (go_simp; done) | (go_simp; with_reducible rfl)
          try simp only [Act.put, List.setIfInBounds_toArray, List.set_cons_zero, List.set_cons_succ]
          refine wpE_take (i := 17) (oi := { dst := some 32, op := Op.move (Operand.tmp 6), type := 3, pos := "keccak.go:73", after := #[], guard := none }) (v := ?_) rfl (by decide) (by kernel_rfl) (by kernel_rfl) (by kernel_rfl) (by kernel_rfl) (by rfl) ?_ ?_
          rotate_left
          · intro W hW; first | (go_simp; done) | (go_simp; with_reducible rfl)
          try simp only [Act.put, List.setIfInBounds_toArray, List.set_cons_zero, List.set_cons_succ]
          refine wpE_take (i := 18) (oi := { dst := some 33, op := Op.binOp BinOp.add 3 (Operand.tmp 32) (Operand.const (Value.int IntKind.i64 2)) 3, type := 3, pos := "keccak.go:73", after := #[{ on := 17, ground := Ground.data }], guard := none }) (v := ?_) rfl (by decide) (by kernel_rfl) (by kernel_rfl) (by kernel_rfl) (by kernel_rfl) (by rfl) ?_ ?_
          rotate_left
          · intro W hW; first | (go_simp; done) | (go_simp; with_reducible rfl)
          try simp only [Act.put, List.setIfInBounds_toArray, List.set_cons_zero, List.set_cons_succ]
          refine wpE_take (i := 19) (oi := { dst := some 34, op := Op.binOp BinOp.rem 3 (Operand.tmp 33) (Operand.const (Value.int IntKind.i64 5)) 3, type := 3, pos := "keccak.go:73", after := #[{ on := 18, ground := Ground.data }], guard := none }) (v := ?_) rfl (by decide) (by kernel_rfl) (by kernel_rfl) (by kernel_rfl) (by kernel_rfl) (by rfl) ?_ ?_
          rotate_left
          · intro W hW; first | (go_simp; done) | (go_simp; with_reducible rfl)
          try simp only [Act.put, List.setIfInBounds_toArray, List.set_cons_zero, List.set_cons_succ]
          refine wpE_take (i := 20) (oi := { dst := some 35, op := Op.binOp BinOp.add 3 (Operand.tmp 31) (Operand.tmp 34) 3, type := 3, pos := "keccak.go:73", after := #[{ on := 16, ground := Ground.data }, { on := 19, ground := Ground.data }], guard := none }) (v := ?_) rfl (by decide) (by kernel_rfl) (by kernel_rfl) (by kernel_rfl) (by kernel_rfl) (by rfl) ?_ ?_
          rotate_left
          · intro W hW; first | (go_simp; done) | (go_simp; with_reducible rfl)
          try simp only [Act.put, List.setIfInBounds_toArray, List.set_cons_zero, List.set_cons_succ]
          refine wpE_take (i := 21) (oi := { dst := some 36, op := Op.indexAddr 66 (Operand.tmp 1) (Operand.tmp 35), type := 0, pos := "keccak.go:73", after := #[{ on := 20, ground := Ground.data }], guard := none }) (v := ?_) rfl (by decide) (by kernel_rfl) (by kernel_rfl) (by kernel_rfl) (by kernel_rfl) (by rfl) ?_ ?_
          rotate_left
          · intro W hW; first | (go_simp; done) | (go_simp; with_reducible rfl)
          try simp only [Act.put, List.setIfInBounds_toArray, List.set_cons_zero, List.set_cons_succ]
          refine wpE_take (i := 22) (oi := { dst := some 37, op := Op.load 65 (Operand.tmp 36), type := 65, pos := "keccak.go:73", after := #[{ on := 21, ground := Ground.data }], guard := none }) (v := ?_) rfl (by decide) (by kernel_rfl) (by kernel_rfl) (by kernel_rfl) (by kernel_rfl) (by rfl) ?_ ?_
          rotate_left
          · intro W hW; have hcW := cellU hc2 hW; first | (go_simp; done) | (go_simp; with_reducible rfl)
          try simp only [Act.put, List.setIfInBounds_toArray, List.set_cons_zero, List.set_cons_succ]
          refine wpE_take (i := 23) (oi := { dst := some 38, op := Op.binOp BinOp.and 65 (Operand.tmp 30) (Operand.tmp 37) 65, type := 65, pos := "keccak.go:73", after := #[{ on := 15, ground := Ground.data }, { on := 22, ground := Ground.data }], guard := none }) (v := ?_) rfl (by decide) (by kernel_rfl) (by kernel_rfl) (by kernel_rfl) (by kernel_rfl) (by rfl) ?_ ?_
          rotate_left
          · intro W hW; first | (go_simp; done) | (go_simp; with_reducible rfl)
          try simp only [Act.put, List.setIfInBounds_toArray, List.set_cons_zero, List.set_cons_succ]
          refine wpE_take (i := 24) (oi := { dst := some 39, op := Op.binOp BinOp.xor 65 (Operand.tmp 22) (Operand.tmp 38) 65, type := 65, pos := "keccak.go:73", after := #[{ on := 7, ground := Ground.data }, { on := 23, ground := Ground.data }], guard := none }) (v := ?_) rfl (by decide) (by kernel_rfl) (by kernel_rfl) (by kernel_rfl) (by kernel_rfl) (by rfl) ?_ ?_
          rotate_left
          · intro W hW; first | (go_simp; done) | (go_simp; with_reducible rfl)
          try simp only [Act.put, List.setIfInBounds_toArray, List.set_cons_zero, List.set_cons_succ]
          refine wpE_take (i := 25) (oi := { dst := some 40, op := Op.indexAddr 66 (Operand.tmp 3) (Operand.tmp 17), type := 0, pos := "keccak.go:73", after := #[{ on := 2, ground := Ground.data }, { on := 0, ground := Ground.phase }, { on := 1, ground := Ground.phase }, { on := 2, ground := Ground.phase }, { on := 3, ground := Ground.phase }, { on := 4, ground := Ground.phase }, { on := 5, ground := Ground.phase }, { on := 6, ground := Ground.phase }, { on := 7, ground := Ground.phase }, { on := 8, ground := Ground.phase }, { on := 9, ground := Ground.phase }, { on := 10, ground := Ground.phase }, { on := 11, ground := Ground.phase }, { on := 12, ground := Ground.phase }, { on := 13, ground := Ground.phase }, { on := 14, ground := Ground.phase }, { on := 15, ground := Ground.phase }, { on := 16, ground := Ground.phase }, { on := 17, ground := Ground.phase }, { on := 18, ground := Ground.phase }, { on := 19, ground := Ground.phase }, { on := 20, ground := Ground.phase }, { on := 21, ground := Ground.phase }, { on := 22, ground := Ground.phase }, { on := 23, ground := Ground.phase }, { on := 24, ground := Ground.phase }], guard := none }) (v := ?_) rfl (by decide) (by kernel_rfl) (by kernel_rfl) (by kernel_rfl) (by kernel_rfl) (by rfl) ?_ ?_
          rotate_left
          · intro W hW; first | (go_simp; done) | (go_simp; with_reducible rfl)
          try simp only [Act.put, List.setIfInBounds_toArray, List.set_cons_zero, List.set_cons_succ]
          refine wpE_last (o := { dst := none, op := Op.store 65 (Operand.tmp 40) (Operand.tmp 39), type := 0, pos := "keccak.go:73", after := #[{ on := 25, ground := Ground.data }, { on := 24, ground := Ground.data }, { on := 0, ground := Ground.phase }, { on := 1, ground := Ground.phase }, { on := 2, ground := Ground.phase }, { on := 3, ground := Ground.phase }, { on := 4, ground := Ground.phase }, { on := 5, ground := Ground.phase }, { on := 6, ground := Ground.phase }, { on := 7, ground := Ground.phase }, { on := 8, ground := Ground.phase }, { on := 9, ground := Ground.phase }, { on := 10, ground := Ground.phase }, { on := 11, ground := Ground.phase }, { on := 12, ground := Ground.phase }, { on := 13, ground := Ground.phase }, { on := 14, ground := Ground.phase }, { on := 15, ground := Ground.phase }, { on := 16, ground := Ground.phase }, { on := 17, ground := Ground.phase }, { on := 18, ground := Ground.phase }, { on := 19, ground := Ground.phase }, { on := 20, ground := Ground.phase }, { on := 21, ground := Ground.phase }, { on := 22, ground := Ground.phase }, { on := 23, ground := Ground.phase }, { on := 24, ground := Ground.phase }], guard := none }) (by kernel_rfl) (by kernel_rfl) rfl (by rfl) fun K hK => ?_
          go_simp
          refine hK.out _ _ ?_
          clear hK K
          try simp only [Act.put, List.setIfInBounds_toArray, List.set_cons_zero, List.set_cons_succ]

          obtain ⟨ro4, hI4⟩ := HS.out _ HX.out
          have hI5 := hI4.drew
          have ro5 := ro4.drew
          go_wp2
          go_roundw
          case rel => exact ⟨X + 1, by omega, by go_num, hI5, ro5⟩
          case measure => simp [intOf]; omega
        · have hXe : X = 5 := by omega
          subst hXe
          rw [show 5 * Y + 5 = 5 * (Y + 1) by omega] at ro3
          go_wp2
          go_roundw
          case rel => exact ⟨Y + 1, by omega, by go_num, hI3, ro3⟩
          case measure => simp [intOf]; omega
    · have hYe : Y = 5 := by omega
      subst hYe
      have r1 := ro2
      rw [upQ_done] at r1
      have r2 := hI2.r
      go_wp2_with (first | refine wpList_load_row rfl 66 _ rfl rfl r1 _ Tryd.underlying66 rfl (arrInfo _) ?_ | (refine wpList_store_row rfl 66 _ _ rfl (stL (chL f)) rfl rfl r2 (by simp [stL_length]) (arrInfo _) ?_; intro w2 r3 hw))
      refine bodyPost_row (p := 2) (ty := 66) rfl rfl rfl r3 Tryd.underlying66 rfl (arrInfo _) ?_
      exact ⟨rfl, hw.below _ _ (by omega) hI2.b⟩
end Go.Proofs.YtlcnepnappfjeaaDoor
