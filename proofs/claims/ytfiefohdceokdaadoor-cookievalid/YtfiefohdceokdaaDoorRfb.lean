/- What functions of the program, or of the reference, answer: contracts; several texts in one. -/
import Derived.Test.YtfiefohdceokdaaDoorRows
import Derived.Test.YtfiefohdceokdaaDoorBase
import Derived.Deep.QuietTactic
import Derived.BigQuiet
import Derived.WalkSpells
import Derived.RegionTactic
import Derived.BigRegion
import Derived.Test.YtfiefohdceokdaaDoorKec

/- What the document's own Load and Store answer, for whatever reads as bytes: contracts of the reference of layer 1. -/
namespace Go.Proofs.YtfiefohdceokdaaDoor
open Go.ChangeShapes Go.WideShapes Go.ChangeAt Go.RowKit
set_option linter.unusedSimpArgs false
set_option linter.unusedVariables false

set_option maxHeartbeats 400000 in
theorem refload_any (v : Value) (l : List UInt8) (w : World) (hr : Rd w v l) :
    Calls Tryd.prog 41 #[v] w fun e w' => e = .returned (.int .u64 ((leN (l.take 8) : Nat) : Int)) ∧ w' = w := by
  obtain ⟨a, cap, rfl, h2, h3, h4, h5⟩ := hr
  unfold maxLen at h3
  go_enter Tryd.func41, Tryd.ntmps41
  go_wp2
  all_goals
    go_loop [3, 5] (fun x i => ∃ k : Nat, k ≤ l.length ∧ k ≤ 8 ∧ i = .int .i64 ((k : Int) - 1) ∧ x = .int .u64 ((leN ((l.take 8).drop k) : Nat) : Int)) (fun _ i => (intOf i + 1).toNat)
    case atStart => 
      first
      | exact ⟨8, by omega, by omega, rfl, valI (by rw [List.drop_eq_nil_of_le (by simp; omega)]; rfl)⟩
      | exact ⟨l.length, by omega, by omega, rfl, valI (by rw [List.drop_eq_nil_of_le (by simp; omega)]; rfl)⟩
    case round =>
      obtain ⟨k, hk, hk8, rfl, rfl⟩ := hrel
      by_cases hlt : 0 < k
      · obtain ⟨j, rfl⟩ : ∃ j, k = j + 1 := ⟨k - 1, by omega⟩
        rcases h5 with rfl | ⟨b, off, rfl, hc⟩
        · simp at hk
        have hck := hc j (by omega)
        have HS : Hid _ := refload_step l j (by omega) (by omega)
        clear hc h4
        go_wp2
        go_round
        case rel => exact ⟨j, by omega, by omega, by go_num, valI (by simpa using HS.out)⟩
        case measure => simp [intOf]
      · go_wp2
        go_ret
        refine ⟨retI ?_, rfl⟩
        have : k = 0 := by omega
        subst this
        rfl

theorem infoU8 : (Tryd.prog.info? 5).map (fun i => (i.zero, i.size, i.bytes)) = some (some (.int .u8 0), 1, 1) := by kernel_rfl

set_option maxHeartbeats 400000 in
theorem refstore_k (x : Nat) (hx : x < 18446744073709551616) (n : Int) (k : Nat) (hk : k ≤ 8) (hn : (n < 0 ∧ k = 0) ∨ (0 ≤ n ∧ n ≤ 8 ∧ n = k) ∨ (8 < n ∧ k = 8)) (w : World) :
    Calls Tryd.prog 19 #[.int .u64 x, .int .i64 n] w fun e w' => ∃ v, e = .returned v ∧ New 5 w v ((List.range k).map (stB x)) w' := by
  obtain ⟨i, hi, hz0, hz1, hz2⟩ := info_parts infoU8
  have HK : Hid ((n < 0 ∧ k = 0) ∨ (0 ≤ n ∧ n ≤ 8 ∧ n = k) ∨ (8 < n ∧ k = 8)) := hn
  clear hn
  go_enter Tryd.func19, Tryd.ntmps19
  go_wp2
  go_loopw [0, 5, 6] (fun xv v i wr => ∃ j y : Nat, j ≤ k ∧ Hid (y = x / 256 ^ j) ∧ xv = .int .u64 (y : Int) ∧ i = .int .i64 j ∧ New 5 w v ((List.range j).map (stB x)) wr) (fun _ _ i _ => k - (intOf i).toNat)
  case atStart => exact ⟨0, x, Nat.zero_le _, by simp [Hid], rfl, rfl, New.start w⟩
  case round =>
    obtain ⟨j, y, hj, Hy, rfl, rfl, hN⟩ := hrel
    have hy : (0 : Int) ≤ (y : Int) := by omega
    have hy2 : (y : Int) < 18446744073709551616 := by have := Hy.out; have := Nat.div_le_self x (256 ^ j); omega
    by_cases hlt : j < k
    · have h1 : (j : Int) < n := by have := HK.out; omega
      have h2 : (j : Int) < 8 := by omega
      go_wp2_with (at_builtin; go_must (refine wpList_append_new (w := w) rfl _ _ 22 rfl 5 Tryd.underlying22 infoU8 _ _ rfl (hN.alloc _) _ _ rfl (Rd.lit1 (stB x j) (by rw [← stB_mod, ← Hy.out])) (by simp; omega) ?_))
      intro v' w2 hN2 _
      go_wp2
      go_roundw
      case rel => exact ⟨j + 1, y / 256, by omega, by rw [Hy.out]; exact div_succ x j, by go_num, by go_num, by rw [List.range_succ, List.map_append]; exact hN2⟩
      case measure => simp [intOf]; omega
    · have hjk : j = k := by omega
      subst hjk
      have hno : ¬ (j : Int) < n ∨ ((j : Int) < n ∧ ¬ (j : Int) < 8) := by have := HK.out; omega
      rcases hno with h1 | ⟨h1, h2⟩
      all_goals
        go_wp2
        go_ret
        exact ⟨_, rfl, hN⟩
end Go.Proofs.YtfiefohdceokdaaDoor

/- What the document's own empty state is: a contract of the reference of layer 2. -/
namespace Go.Proofs.YtfiefohdceokdaaDoor
open Go.ChangeShapes Go.WideShapes Go.ChangeAt Go.RowKit
set_option linter.unusedSimpArgs false
set_option linter.unusedVariables false

theorem sizeU64 : (Tryd.prog.info? 23).map (·.size) = some 1 := by kernel_rfl
theorem infoU64 : (Tryd.prog.info? 23).map (fun i => (i.zero, i.size, i.bytes)) = some (some (.int .u64 0), 1, 8) := by kernel_rfl

set_option maxHeartbeats 400000 in
theorem lanes_any (w : World) : Calls Tryd.prog 38 #[] w fun e w' => ∃ v, e = .returned v ∧ NewI .u64 23 w v (stL (fun _ => 0)) w' := by
  obtain ⟨i, hi, hz0, hz1, hz2⟩ := info_parts infoU64
  go_enter Tryd.func38, Tryd.ntmps38
  go_wp2_with (at_make; go_must (refine wpList_make_full _ rfl _ _ 45 rfl w.heap.size 23 i _ 1 Tryd.underlying45 hi hz0 hz1 _ _ _ _ 25 rfl rfl rfl rfl (by rw [hz2]; omega) (by unfold maxLen; omega) (Nat.le_refl _) ?_))
  intro w1 hown hgr
  have hN := NewI.made hown hgr
  rw [stL_zero] at hN
  go_wp2
  go_ret
  exact ⟨_, rfl, hN⟩

end Go.Proofs.YtfiefohdceokdaaDoor

/- What the document's own bytes of a state, and state of bytes, are: contracts of the reference of layer 3, first part. -/
namespace Go.Proofs.YtfiefohdceokdaaDoor
open Go.ChangeShapes Go.WideShapes Go.ChangeAt Go.RowKit
set_option linter.unusedSimpArgs false
set_option linter.unusedVariables false

set_option maxHeartbeats 1000000 in
theorem bytes_any (va : Value) (f : Nat → Nat) (hf : ∀ i, f i < 18446744073709551616) (w : World) (hr : RdI .u64 w va (stL f)) :
    Calls Tryd.prog 33 #[va] w fun e w' => ∃ v, e = .returned v ∧ New 5 w v (bsP f 200) w' := by
  have HF : Hid (∀ i, f i < 18446744073709551616) := hf
  obtain ⟨b, off, cap, rfl, hcap, hmax, hb, _⟩ := hr.cells (stL_ne f)
  rw [stL_length] at hcap
  have e25 := stL_length f
  rw [e25] at hr ⊢
  have HR : Hid (RdI .u64 w (.slice (some ⟨b, off, none⟩) 25 cap) (stL f)) := hr
  clear e25 hf hr
  go_enter Tryd.func33, Tryd.ntmps33
  go_wp2
  go_loopw [3, 4] (fun v i wr => ∃ j : Nat, j ≤ 25 ∧ i = .int .i64 j ∧ New 5 w v (bsP f (8 * j)) wr) (fun _ i _ => 25 - (intOf i).toNat)
  case atStart => exact ⟨0, by omega, rfl, New.start w⟩
  case round =>
    obtain ⟨j, hj, rfl, hN⟩ := hrel
    by_cases hlt : j < 25
    · have hd : decide ((j : Int) < 25) = true := decide_eq_true (by omega)
      have hjI : (j : Int) < 25 := by omega
      obtain ⟨b', off', cap', ev, _, hc, _⟩ := (HR.out.kept hN.2).cellAt (i := j) (by rw [stL_length]; exact hlt)
      simp only [Value.slice.injEq, Option.some.injEq, Addr.mk.injEq, and_true] at ev
      obtain ⟨⟨rfl, rfl⟩, -, rfl⟩ := ev
      rw [stL_get f j hlt] at hc
      have hq := HF.out j
      have HE : Hid _ := bsP_next f j
      generalize f j = q at hc hq HE
      go_wp2_with fail
      refine (refstore_k q hq 8 8 (by omega) (.inr (.inl ⟨by omega, by omega, by omega⟩)) _).mono ?_
      rintro e w2 ⟨v2, rfl, hN2⟩
      have hN3 := hN.kept hN2.2
      have hR2 := hN2.rd
      clear hN hN2 hc
      go_wp2_with (at_builtin; go_must (refine wpList_append_new (w := w) rfl _ _ 22 rfl 5 Tryd.underlying22 infoU8 _ _ rfl hN3 _ _ rfl hR2 (by simp [bsP_length]; omega) ?_))
      intro v' w3 hN4 _
      have hN5 : New 5 w v' (bsP f (8 * (j + 1))) w3 := by
        rw [← HE.out]
        exact hN4
      clear hN4
      go_wp2
      go_roundw
      case rel => exact ⟨j + 1, by omega, by go_num, hN5⟩
      case measure => simp [intOf]; omega
    · have hje : j = 25 := by omega
      subst hje
      go_wp2
      go_ret
      exact ⟨_, rfl, hN⟩

set_option maxHeartbeats 1000000 in
theorem state_any (va : Value) (l : List UInt8) (hl : l.length = 200) (w : World) (hr : Rd w va l) :
    Calls Tryd.prog 35 #[va] w fun e w' => ∃ v, e = .returned v ∧ NewI .u64 23 w v (stL (stF l)) w' := by
  obtain ⟨b, off, cap, rfl, hcap, _⟩ := hr.cellAt (i := 0) (by omega)
  rw [hl] at hr hcap ⊢
  have HR : Hid (Rd w (.slice (some ⟨b, off, none⟩) 200 cap) l) := hr
  clear hr
  go_enter Tryd.func35, Tryd.ntmps35
  go_wp2
  go_loopw [3, 4] (fun v i wr => ∃ j : Nat, j ≤ 25 ∧ i = .int .i64 j ∧ NewI .u64 23 w v (stP l j) wr) (fun _ i _ => 25 - (intOf i).toNat)
  case atStart => exact ⟨0, by omega, rfl, NewI.start w⟩
  case round =>
    obtain ⟨j, hj, rfl, hN⟩ := hrel
    by_cases hlt : j < 25
    · have hd : decide ((j : Int) < 25) = true := decide_eq_true (by omega)
      have hjI : (j : Int) < 25 := by omega
      have hR := (HR.out.kept hN.2).sub (8 * j) (8 * j + 8) (by omega) (by omega)
      rw [show 8 * j + 8 - 8 * j = 8 by omega] at hR
      have w8 : IntKind.i64.wrap (8 * (j : Int)) = 8 * (j : Int) := IntWalk.i64_in _ (by omega)
      have w9 : IntKind.i64.wrap (8 * (j : Int) + 8) = 8 * (j : Int) + 8 := IntWalk.i64_in _ (by omega)
      go_wp2_with fail
      refine (refload_any _ _ _ hR).mono ?_
      rintro e w2 ⟨rfl, rfl⟩
      have ex : leN (List.take 8 (List.take 8 (List.drop (8 * j) l))) = stF l j := by
        rw [List.take_take]
        rfl
      rw [ex]
      have HE : Hid _ := stP_next l j
      generalize stF l j = x at HE
      clear hR ex
      have hL : RdI .u64 (w2.alloc (.cells #[.int .u64 ((x : Nat) : Int)] 23)) (.slice (some ⟨w2.heap.size, 0, none⟩) 1 1) [((x : Nat) : Int)] := (NewI.lit (k := .u64) (w := w2) (e := 23) [((x : Nat) : Int)] rfl rfl rfl (by simp [maxLen])).rd
      go_wp2_with (at_builtin; go_must (refine wpList_append_newI (w := w) rfl _ _ 45 rfl 23 Tryd.underlying45 8 infoU64 _ _ rfl (hN.alloc _) _ _ rfl hL (by simp [stP_length]; omega) (by simp [stP_length]; omega) ?_))
      intro v' w3 hN4 _
      rw [HE.out] at hN4
      clear hN hL
      go_wp2
      go_roundw
      case rel => exact ⟨j + 1, by omega, by go_num, hN4⟩
      case measure => simp [intOf]; omega
    · have hje : j = 25 := by omega
      subst hje
      rw [stP_done] at hN
      go_wp2
      go_ret
      exact ⟨_, rfl, hN⟩
end Go.Proofs.YtfiefohdceokdaaDoor

/- What the document's own turning of a lane and its constants answer: contracts of the reference of layer 2, sixth part. -/
namespace Go.Proofs.YtfiefohdceokdaaDoor
open Go.ChangeShapes Go.WideShapes Go.ChangeAt Go.RowKit
set_option linter.unusedSimpArgs false
set_option linter.unusedVariables false

set_option maxHeartbeats 400000 in
theorem turn_any (x n : Nat) (X B : Int) (hX : X = x) (hB : B = n) (hx : x < 18446744073709551616) (hn : n < 64) (w : World) :
    Calls Tryd.prog 40 #[.int .u64 X, .int .i64 B] w fun e w' => e = .returned (.int .u64 ((turnN x n : Nat) : Int)) ∧ w' = w := by
  subst hX hB
  by_cases h0 : n = 0
  · subst h0
    have e : turnN x 0 = x := rfl
    rw [e]
    clear e
    go_enter Tryd.func40, Tryd.ntmps40
    go_wp2
    go_ret
    exact ⟨rfl, rfl⟩
  · have hb : ((n : Int) == 0) = false := by rw [beq_eq_false_iff_ne]; omega
    have h1 : (1 : Int) ≤ n := by omega
    have HE : Hid (turnN x n = x * 2 ^ n % 18446744073709551616 + x / 2 ^ (64 - n)) := by show turnN x n = _; unfold turnN; rw [if_neg h0]; rfl
    have HL : Hid (turnN x n < 18446744073709551616) := turnN_lt x n hx hn
    have HN : Hid (((64 : Int) - (n : Int)).toNat = 64 - n) := by show Int.toNat _ = _; omega
    clear h0
    go_enter Tryd.func40, Tryd.ntmps40
    go_wp2
    go_ret
    refine ⟨retI ?_, rfl⟩
    have h := HL.out
    rw [HE.out] at h
    have e1 : ((x : Int) * 2 ^ n) = ((x * 2 ^ n : Nat) : Int) := by simp
    have e2 : ((x : Int) / 2 ^ (64 - n)) = ((x / 2 ^ (64 - n) : Nat) : Int) := by simp
    rw [HE.out, IntKind.wrap_u64, IntKind.wrap_u64, e1, e2]
    generalize x * 2 ^ n = p at h
    generalize x / 2 ^ (64 - n) = q at h
    omega

set_option maxHeartbeats 400000 in
theorem constants_any (w : World) : Calls Tryd.prog 39 #[] w fun e w' => ∃ v, e = .returned v ∧ NewI .u64 23 w v (kst.map fun x => ((x : Nat) : Int)) w' := by
  go_enter Tryd.func39, Tryd.ntmps39
  go_wp2
  go_ret
  exact ⟨_, rfl, NewI.lit _ (by simp [kst]) (by simp [kst]) rfl (by simp [maxLen, kst])⟩

end Go.Proofs.YtfiefohdceokdaaDoor

/- What the document's own rounds lane by lane answer: contracts of the reference of layer 2, seventh part. -/
namespace Go.Proofs.YtfiefohdceokdaaDoor
open Go.ChangeShapes Go.WideShapes Go.ChangeAt Go.RowKit
set_option linter.unusedSimpArgs false
set_option linter.unusedVariables false

/-- What the rounds know of memory: the state's row, the constants' row. -/
structure FastI (w : World) (gs caps gk capk : Nat) (l : List Int) (wr : World) : Prop where
  s : RowAt .u64 23 gs caps l wr
  k : RowAt .u64 23 gk capk (kst.map fun x => ((x : Nat) : Int)) wr
  b : Below w.heap.size w wr
theorem FastI.set {w : World} {gs caps gk capk : Nat} {l : List Int} {wr : World} (h : FastI w gs caps gk capk l wr) (hg : w.heap.size ≤ gs) (hne : gs < gk) (j : Nat) (x : Int) :
    FastI w gs caps gk capk (l.set j x) (wr.setCell ⟨gs, j, none⟩ (.int .u64 x)) := ⟨h.s.set j x, h.k.other (by show gs ≠ gk; omega) _, h.b.setCell hg _⟩
theorem FastI.other {w : World} {gs caps gk capk : Nat} {l : List Int} {wr : World} (h : FastI w gs caps gk capk l wr) {p : Addr} (h1 : p.block ≠ gs) (h2 : p.block ≠ gk) (h3 : w.heap.size ≤ p.block) (u : Value) :
    FastI w gs caps gk capk l (wr.setCell p u) := ⟨h.s.other h1 _, h.k.other h2 _, h.b.setCell h3 _⟩
theorem FastI.kept {w : World} {gs caps gk capk : Nat} {l : List Int} {wr w' : World} (h : FastI w gs caps gk capk l wr) (hb : Below wr.heap.size wr w') : FastI w gs caps gk capk l w' :=
  ⟨h.s.kept hb, h.k.kept hb, h.b.trans (hb.mono h.b.size)⟩
theorem FastI.drew {w : World} {gs caps gk capk : Nat} {l : List Int} {wr : World} (h : FastI w gs caps gk capk l wr) : FastI w gs caps gk capk l wr.drew := h.kept (Below.refl _ _).drew

theorem kst_getI (J : Nat) (hJ : J < 24) : (kst.map fun x => ((x : Nat) : Int)).getD J 0 = ((kst.getD J 0 : Nat) : Int) := by
  have h : J < kst.length := by simp [kst]; omega
  simp [h]
theorem cellW {w W : World} {p : Addr} {v : Value} (h : w.cell? p = some v) (hb : Below w.drew.heap.size w.drew W) : W.cell? p = some v := by
  have h1 : w.drew.cell? p = some v := h
  rw [hb.cell (World.block_lt_of_cell? _ _ h1)]
  exact h1

set_option maxRecDepth 100000 in
set_option maxHeartbeats 8000000 in
theorem fast_any (va : Value) (f : Nat → Nat) (hf : ∀ i, f i < 18446744073709551616) (w : World) (hr : RdI .u64 w va (stL f)) :
    Calls Tryd.prog 34 #[va] w fun e w' => ∃ v, e = .returned v ∧ NewI .u64 23 w v (stL (rdsF f 24)) w' := by
  obtain ⟨ti, hti, hz0, hz1, hz2⟩ := info_parts infoU64
  have Hr : Hid (RdI .u64 w va (stL f)) := hr
  have Hf : Hid (∀ i, f i < 18446744073709551616) := hf
  clear hr hf
  go_enter Tryd.func34, Tryd.ntmps34
  go_wp2_with fail
  refine (lanes_any _).mono ?_
  rintro e w1 ⟨v3, rfl, hN1⟩
  go_wp2_with (refine wpList_copy_newI (w := w) rfl _ _ 45 rfl 23 Tryd.underlying45 sizeU64 v3 _ rfl hN1 va _ rfl (Hr.out.kept hN1.2) (by rw [stL_length, stL_length]) (stL_ne _) ?_)
  intro w2 hN2
  clear hN1
  obtain ⟨gs, caps, e3, hgs, hrs⟩ := hN2.row (stL_ne f)
  have hb2 := hN2.2
  clear hN2
  rw [stL_length] at e3
  subst e3
  go_wp2_with fail
  refine (constants_any _).mono ?_
  rintro e w3 ⟨v4, rfl, hN4⟩
  obtain ⟨gk, capk, e4, hgk, hrk⟩ := hN4.row (by simp [kst])
  have hrs3 := hrs.kept hN4.2
  have hlt : gs < gk := Nat.lt_of_lt_of_le hrs.lt hgk
  have hI : FastI w gs caps gk capk (stL f) w3 := ⟨hrs3, hrk, stepB hb2 hN4.2⟩
  rw [show (kst.map fun x => ((x : Nat) : Int)).length = 24 from by simp [kst]] at e4
  subst e4
  clear hrs3 hrk hrs hb2 hN4 hgk
  go_wp2_with fail
  go_loopw [5] (fun i wr => ∃ J : Nat, J ≤ 24 ∧ i = .int .i64 J ∧ FastI w gs caps gk capk (stL (rdsL f J)) wr) (fun i _ => 24 - (intOf i).toNat)
  case atStart => exact ⟨0, by omega, rfl, hI⟩
  case round =>
    obtain ⟨J, hJ, rfl, hI2⟩ := hrel
    clear hI
    by_cases hJ24 : J < 24
    · have hd1 : decide ((J : Int) < 24) = true := decide_eq_true (by omega)
      have HF : Hid (∀ i, rdsL f J i < 18446744073709551616) := rdsL_lt f Hf.out J hJ
      have HN : Hid (rdsL f (J + 1) = rdL (rdsL f J) J) := rfl
      generalize rdsL f J = F at hI2 HF HN
      go_wp2_with (at_make; go_must (refine wpList_make_full _ rfl _ _ 45 rfl wr.heap.size 23 ti _ 1 Tryd.underlying45 hti hz0 hz1 _ _ _ _ 5 rfl rfl rfl rfl (by rw [hz2]; omega) (by unfold maxLen; omega) (Nat.le_refl _) ?_))
      intro w5 hown hgr
      have hNc := NewI.made hown hgr
      obtain ⟨gc, capc, ec, hgc, hrc⟩ := hNc.row (by simp)
      simp only [Value.slice.injEq, Option.some.injEq, Addr.mk.injEq, and_true, true_and, List.length_replicate] at ec
      obtain ⟨rfl, rfl⟩ := ec
      have hI3 := hI2.kept hNc.2
      have hgsc : gs < wr.heap.size := hI2.s.lt
      have hgkc : gk < wr.heap.size := hI2.k.lt
      have hwc : w.heap.size ≤ wr.heap.size := hI2.b.size
      rw [cP_zero F] at hrc
      generalize wr.heap.size = gc at hrc hgsc hgkc hwc hgc
      clear hown hgr hNc hI2
      go_wp2_with fail
      go_loopw [7] (fun i wr => ∃ X : Nat, X ≤ 5 ∧ i = .int .i64 X ∧ FastI w gs caps gk capk (stL F) wr ∧ RowAt .u64 23 gc 5 (cP F X) wr) (fun i _ => 5 - (intOf i).toNat)
      case atStart => exact ⟨0, by omega, rfl, hI3, hrc⟩
      case round =>
        obtain ⟨X, hX, rfl, hI4, hrc4⟩ := hrel
        clear hI3 hrc
        by_cases hX5 : X < 5
        · have hcap := hI4.s.cap
          rw [stL_length] at hcap
          have c0 := hI4.s.cell (j := X) (by rw [stL_length]; omega)
          have c1 := hI4.s.cell (j := X + 5) (by rw [stL_length]; omega)
          have c2 := hI4.s.cell (j := X + 10) (by rw [stL_length]; omega)
          have c3 := hI4.s.cell (j := X + 15) (by rw [stL_length]; omega)
          have c4 := hI4.s.cell (j := X + 20) (by rw [stL_length]; omega)
          rw [stL_get F _ (by omega)] at c0 c1 c2 c3 c4
          have cc := hrc4.cell (j := X) (by rw [cP_length]; omega)
          have fc := hrc4.free X
          have HC : Hid _ := colI F HF.out X
          have HS : Hid (∀ x : Int, x = ((colN F X : Nat) : Int) → RowAt .u64 23 gc 5 (cP F (X + 1)) (wr.setCell ⟨gc, X, none⟩ (.int .u64 x))) := by
            intro x hx
            rw [← cP_set, ← hx]
            exact hrc4.set X x
          generalize F X = q0 at c0 HC
          generalize F (X + 5) = q1 at c1 HC
          generalize F (X + 10) = q2 at c2 HC
          generalize F (X + 15) = q3 at c3 HC
          generalize F (X + 20) = q4 at c4 HC
          generalize (cP F X).getD X 0 = q5 at cc
          have hXi : (X : Int) < 5 := by omega
          have i1 : (X : Int) + 5 < 25 := by omega
          have i2 : (X : Int) + 10 < 25 := by omega
          have i3 : (X : Int) + 15 < 25 := by omega
          have i4 : (X : Int) + 20 < 25 := by omega
          have HI4 : Hid _ := hI4
          have x25 : (X : Int) < 25 := by omega
          have w1 : IntKind.i64.wrap ((X : Int) + 5) = (X : Int) + 5 := IntWalk.i64_in _ (by omega)
          have w2 : IntKind.i64.wrap ((X : Int) + 10) = (X : Int) + 10 := IntWalk.i64_in _ (by omega)
          have w3 : IntKind.i64.wrap ((X : Int) + 15) = (X : Int) + 15 := IntWalk.i64_in _ (by omega)
          have w4 : IntKind.i64.wrap ((X : Int) + 20) = (X : Int) + 20 := IntWalk.i64_in _ (by omega)
          have p1 : 0 ≤ (X : Int) + 5 := by omega
          have p2 : 0 ≤ (X : Int) + 10 := by omega
          have p3 : 0 ≤ (X : Int) + 15 := by omega
          have p4 : 0 ≤ (X : Int) + 20 := by omega
          have n1 : ((X : Int) + 5).toNat = X + 5 := by omega
          have n2 : ((X : Int) + 10).toNat = X + 10 := by omega
          have n3 : ((X : Int) + 15).toNat = X + 15 := by omega
          have n4 : ((X : Int) + 20).toNat = X + 20 := by omega
          clear hI4 hrc4
          go_wp2_with fail
          refine wpE_begin 31 (by kernel_rfl) ?_
          refine eU_ 0 rfl ⟨_, by intro W hW; go_simp <;> with_reducible rfl, ?_⟩
          try simp only [Act.put, pA_, pB_, pC_]
          refine eU_ 1 rfl ⟨_, by intro W hW; go_simp <;> with_reducible rfl, ?_⟩
          try simp only [Act.put, pA_, pB_, pC_]
          refine eU_ 2 rfl ⟨_, by intro W hW; go_simp <;> with_reducible rfl, ?_⟩
          try simp only [Act.put, pA_, pB_, pC_]
          refine eU_ 3 rfl ⟨_, by intro W hW; go_simp <;> with_reducible rfl, ?_⟩
          try simp only [Act.put, pA_, pB_, pC_]
          refine eU_ 4 rfl ⟨_, by intro W hW; go_simp <;> with_reducible rfl, ?_⟩
          try simp only [Act.put, pA_, pB_, pC_]
          refine eU_ 5 rfl ⟨_, by intro W hW; have hcW := cellW c0 hW; go_simp <;> with_reducible rfl, ?_⟩
          try simp only [Act.put, pA_, pB_, pC_]
          refine eU_ 6 rfl ⟨_, by intro W hW; go_simp <;> with_reducible rfl, ?_⟩
          try simp only [Act.put, pA_, pB_, pC_]
          refine eU_ 7 rfl ⟨_, by intro W hW; go_simp <;> with_reducible rfl, ?_⟩
          try simp only [Act.put, pA_, pB_, pC_]
          refine eU_ 8 rfl ⟨_, by intro W hW; go_simp <;> with_reducible rfl, ?_⟩
          try simp only [Act.put, pA_, pB_, pC_]
          refine eU_ 9 rfl ⟨_, by intro W hW; go_simp <;> with_reducible rfl, ?_⟩
          try simp only [Act.put, pA_, pB_, pC_]
          refine eU_ 10 rfl ⟨_, by intro W hW; have hcW := cellW c1 hW; go_simp <;> with_reducible rfl, ?_⟩
          try simp only [Act.put, pA_, pB_, pC_]
          refine eU_ 11 rfl ⟨_, by intro W hW; go_simp <;> with_reducible rfl, ?_⟩
          try simp only [Act.put, pA_, pB_, pC_]
          refine eU_ 12 rfl ⟨_, by intro W hW; go_simp <;> with_reducible rfl, ?_⟩
          try simp only [Act.put, pA_, pB_, pC_]
          refine eU_ 13 rfl ⟨_, by intro W hW; go_simp <;> with_reducible rfl, ?_⟩
          try simp only [Act.put, pA_, pB_, pC_]
          refine eU_ 14 rfl ⟨_, by intro W hW; go_simp <;> with_reducible rfl, ?_⟩
          try simp only [Act.put, pA_, pB_, pC_]
          refine eU_ 15 rfl ⟨_, by intro W hW; go_simp <;> with_reducible rfl, ?_⟩
          try simp only [Act.put, pA_, pB_, pC_]
          refine eU_ 16 rfl ⟨_, by intro W hW; have hcW := cellW c2 hW; go_simp <;> with_reducible rfl, ?_⟩
          try simp only [Act.put, pA_, pB_, pC_]
          refine eU_ 17 rfl ⟨_, by intro W hW; go_simp <;> with_reducible rfl, ?_⟩
          try simp only [Act.put, pA_, pB_, pC_]
          refine eU_ 18 rfl ⟨_, by intro W hW; go_simp <;> with_reducible rfl, ?_⟩
          try simp only [Act.put, pA_, pB_, pC_]
          refine eU_ 19 rfl ⟨_, by intro W hW; go_simp <;> with_reducible rfl, ?_⟩
          try simp only [Act.put, pA_, pB_, pC_]
          refine eU_ 20 rfl ⟨_, by intro W hW; go_simp <;> with_reducible rfl, ?_⟩
          try simp only [Act.put, pA_, pB_, pC_]
          refine eU_ 21 rfl ⟨_, by intro W hW; go_simp <;> with_reducible rfl, ?_⟩
          try simp only [Act.put, pA_, pB_, pC_]
          refine eU_ 22 rfl ⟨_, by intro W hW; have hcW := cellW c3 hW; go_simp <;> with_reducible rfl, ?_⟩
          try simp only [Act.put, pA_, pB_, pC_]
          refine eU_ 23 rfl ⟨_, by intro W hW; go_simp <;> with_reducible rfl, ?_⟩
          try simp only [Act.put, pA_, pB_, pC_]
          refine eU_ 24 rfl ⟨_, by intro W hW; go_simp <;> with_reducible rfl, ?_⟩
          try simp only [Act.put, pA_, pB_, pC_]
          refine eU_ 25 rfl ⟨_, by intro W hW; go_simp <;> with_reducible rfl, ?_⟩
          try simp only [Act.put, pA_, pB_, pC_]
          refine eU_ 26 rfl ⟨_, by intro W hW; go_simp <;> with_reducible rfl, ?_⟩
          try simp only [Act.put, pA_, pB_, pC_]
          refine eU_ 27 rfl ⟨_, by intro W hW; go_simp <;> with_reducible rfl, ?_⟩
          try simp only [Act.put, pA_, pB_, pC_]
          refine eU_ 28 rfl ⟨_, by intro W hW; have hcW := cellW c4 hW; go_simp <;> with_reducible rfl, ?_⟩
          try simp only [Act.put, pA_, pB_, pC_]
          refine eU_ 29 rfl ⟨_, by intro W hW; go_simp <;> with_reducible rfl, ?_⟩
          try simp only [Act.put, pA_, pB_, pC_]
          refine eU_ 30 rfl ⟨_, by intro W hW; go_simp <;> with_reducible rfl, ?_⟩
          try simp only [Act.put, pA_, pB_, pC_]
          refine eL_ fun K hK => ?_
          go_simp
          refine hK.out _ _ ?_
          clear hK K
          try simp only [Act.put, pA_, pB_, pC_]
          go_wp2
          go_roundw
          case rel => exact ⟨X + 1, by omega, by go_num, (FastI.other HI4.out (p := ⟨gc, X, none⟩) (by show gc ≠ gs; omega) (by show gc ≠ gk; omega) (by show w.heap.size ≤ gc; omega) _).drew, (HS.out _ HC.out).drew⟩
          case measure => simp [intOf]; omega
        · have hXe : X = 5 := by omega
          rw [hXe] at hrc4
          have hd2 : decide ((X : Int) < 5) = false := decide_eq_false (by omega)
          have hX6 : (5 : Int) ≤ X := by omega
          clear hXe
          rw [upQ_zero F (thL F)] at hI4
          go_wp2_with fail
          go_loopw [8] (fun i wr => ∃ K : Nat, K ≤ 25 ∧ i = .int .i64 K ∧ FastI w gs caps gk capk (stL (upQ F (thL F) K)) wr ∧ RowAt .u64 23 gc 5 (cP F 5) wr) (fun i _ => 25 - (intOf i).toNat)
          case atStart => exact ⟨0, by omega, rfl, hI4, hrc4⟩
          case round =>
            obtain ⟨K, hK, rfl, hI5, hrc5⟩ := hrel
            clear hI4 hrc4
            by_cases hK25 : K < 25
            · have hcap := hI5.s.cap
              rw [stL_length] at hcap
              obtain ⟨m4, hm4⟩ : ∃ m : Nat, m = (K % 5 + 4) % 5 := ⟨_, rfl⟩
              obtain ⟨m1, hm1⟩ : ∃ m : Nat, m = (K % 5 + 1) % 5 := ⟨_, rfl⟩
              have b4 : m4 < 5 := by omega
              have b1 : m1 < 5 := by omega
              obtain ⟨k5, hk5⟩ : ∃ m : Nat, m = K % 5 := ⟨_, rfl⟩
              have t0 : (K : Int).tmod 5 = (k5 : Int) := by rw [hk5]; exact Int.tmod_eq_emod_of_nonneg (by omega)
              have t4 : ((k5 : Int) + 4).tmod 5 = (m4 : Int) := by rw [Int.tmod_eq_emod_of_nonneg (by omega)]; omega
              have t1 : ((k5 : Int) + 1).tmod 5 = (m1 : Int) := by rw [Int.tmod_eq_emod_of_nonneg (by omega)]; omega
              have u0 : (K : Int) % 5 = (k5 : Int) := by omega
              have u4 : ((k5 : Int) + 4) % 5 = (m4 : Int) := by omega
              have u1 : ((k5 : Int) + 1) % 5 = (m1 : Int) := by omega
              have v4 : IntKind.i64.wrap ((k5 : Int) + 4) = (k5 : Int) + 4 := IntWalk.i64_in _ (by omega)
              have v1 : IntKind.i64.wrap ((k5 : Int) + 1) = (k5 : Int) + 1 := IntWalk.i64_in _ (by omega)
              have c0 := hI5.s.cell (j := K) (by rw [stL_length]; omega)
              have fs := hI5.s.free K
              rw [stL_get _ _ (by omega), upQ_get] at c0
              have c4 := hrc5.cell (j := m4) (by rw [cP_length]; omega)
              have c1 := hrc5.cell (j := m1) (by rw [cP_length]; omega)
              rw [cP_get _ _ b4] at c4
              rw [cP_get _ _ b1] at c1
              have HC : Hid _ := thI F HF.out K
              rw [← hm4, ← hm1] at HC
              have HS : Hid (∀ x : Int, x = ((thL F K : Nat) : Int) → FastI w gs caps gk capk (stL (upQ F (thL F) (K + 1))) (wr.setCell ⟨gs, K, none⟩ (.int .u64 x))) := by
                intro x hx
                rw [← upQ_set, ← hx]
                exact hI5.set hgs hlt K x
              have hcl := colN_lt F HF.out m1
              generalize F K = q0 at c0 HC
              generalize colN F m4 = q4 at c4 HC
              generalize colN F m1 = q1 at c1 HC hcl
              have HRC : Hid _ := hrc5
              have hKi : (K : Int) < 25 := by omega
              have b4' : (m4 : Int) < 5 := by omega
              have b1' : (m1 : Int) < 5 := by omega
              clear hI5 hrc5 hm4 hm1 hk5
              go_wp2_with fail
              refine wpE_begin 24 (by kernel_rfl) ?_
              refine eU_ 0 rfl ⟨_, by intro W hW; go_simp <;> with_reducible rfl, ?_⟩
              try simp only [Act.put, pA_, pB_, pC_]
              refine eU_ 1 rfl ⟨_, by intro W hW; go_simp <;> with_reducible rfl, ?_⟩
              try simp only [Act.put, pA_, pB_, pC_]
              refine eU_ 2 rfl ⟨_, by intro W hW; go_simp <;> with_reducible rfl, ?_⟩
              try simp only [Act.put, pA_, pB_, pC_]
              refine eU_ 3 rfl ⟨_, by intro W hW; go_simp <;> with_reducible rfl, ?_⟩
              try simp only [Act.put, pA_, pB_, pC_]
              refine eU_ 4 rfl ⟨_, by intro W hW; go_simp <;> with_reducible rfl, ?_⟩
              try simp only [Act.put, pA_, pB_, pC_]
              refine eU_ 5 rfl ⟨_, by intro W hW; have hcW := cellW c0 hW; go_simp <;> with_reducible rfl, ?_⟩
              try simp only [Act.put, pA_, pB_, pC_]
              refine eU_ 6 rfl ⟨_, by intro W hW; go_simp <;> with_reducible rfl, ?_⟩
              try simp only [Act.put, pA_, pB_, pC_]
              refine eU_ 7 rfl ⟨_, by intro W hW; go_simp <;> with_reducible rfl, ?_⟩
              try simp only [Act.put, pA_, pB_, pC_]
              refine eU_ 8 rfl ⟨_, by intro W hW; go_simp <;> with_reducible rfl, ?_⟩
              try simp only [Act.put, pA_, pB_, pC_]
              refine eU_ 9 rfl ⟨_, by intro W hW; go_simp <;> with_reducible rfl, ?_⟩
              try simp only [Act.put, pA_, pB_, pC_]
              refine eU_ 10 rfl ⟨_, by intro W hW; go_simp <;> with_reducible rfl, ?_⟩
              try simp only [Act.put, pA_, pB_, pC_]
              refine eU_ 11 rfl ⟨_, by intro W hW; go_simp <;> with_reducible rfl, ?_⟩
              try simp only [Act.put, pA_, pB_, pC_]
              refine eU_ 12 rfl ⟨_, by intro W hW; have hcW := cellW c4 hW; go_simp <;> with_reducible rfl, ?_⟩
              try simp only [Act.put, pA_, pB_, pC_]
              refine eU_ 13 rfl ⟨_, by intro W hW; go_simp <;> with_reducible rfl, ?_⟩
              try simp only [Act.put, pA_, pB_, pC_]
              refine eU_ 14 rfl ⟨_, by intro W hW; go_simp <;> with_reducible rfl, ?_⟩
              try simp only [Act.put, pA_, pB_, pC_]
              refine eU_ 15 rfl ⟨_, by intro W hW; go_simp <;> with_reducible rfl, ?_⟩
              try simp only [Act.put, pA_, pB_, pC_]
              refine eU_ 16 rfl ⟨_, by intro W hW; go_simp <;> with_reducible rfl, ?_⟩
              try simp only [Act.put, pA_, pB_, pC_]
              refine eU_ 17 rfl ⟨_, by intro W hW; go_simp <;> with_reducible rfl, ?_⟩
              try simp only [Act.put, pA_, pB_, pC_]
              refine eU_ 18 rfl ⟨_, by intro W hW; go_simp <;> with_reducible rfl, ?_⟩
              try simp only [Act.put, pA_, pB_, pC_]
              refine eU_ 19 rfl ⟨_, by intro W hW; go_simp <;> with_reducible rfl, ?_⟩
              try simp only [Act.put, pA_, pB_, pC_]
              refine eU_ 20 rfl ⟨_, by intro W hW; have hcW := cellW c1 hW; go_simp <;> with_reducible rfl, ?_⟩
              try simp only [Act.put, pA_, pB_, pC_]
              refine eD_ 21 fun K hK => ?_
              go_simp
              refine (turn_any q1 1 _ _ rfl rfl hcl (by decide) _).mono ?_
              rintro e w' ⟨rfl, rfl⟩
              refine hK.out _ _ (Below.refl _ _) ?_
              clear hK K
              try simp only [Act.put, pA_, pB_, pC_]
              refine eU_ 22 rfl ⟨_, by intro W hW; go_simp <;> with_reducible rfl, ?_⟩
              try simp only [Act.put, pA_, pB_, pC_]
              refine eU_ 23 rfl ⟨_, by intro W hW; go_simp <;> with_reducible rfl, ?_⟩
              try simp only [Act.put, pA_, pB_, pC_]
              refine eL_ fun K hK => ?_
              go_simp
              refine hK.out _ _ ?_
              clear hK K
              try simp only [Act.put, pA_, pB_, pC_]
              go_wp2
              go_roundw
              case rel => exact ⟨K + 1, by omega, by go_num, (HS.out _ HC.out).drew, (RowAt.other HRC.out (p := ⟨gs, K, none⟩) (by show gs ≠ gc; omega) _).drew⟩
              case measure => simp [intOf]; omega
            · have hKe : K = 25 := by omega
              have hd3 : decide ((K : Int) < 25) = false := decide_eq_false (by omega)
              have hK6 : (25 : Int) ≤ K := by omega
              rw [hKe, upQ_done] at hI5
              clear hKe hrc5
              have HG : Hid (∀ i, thL F i < 18446744073709551616) := thL_lt F HF.out
              have HN2 : Hid (rdsL f (J + 1) = ioK (chL (piF (rhL (thL F)))) J) := HN.out
              generalize thL F = G at hI5 HG HN2
              clear HF HN
              go_wp2_with fail
              refine (lanes_any _).mono ?_
              rintro e w6 ⟨v9, rfl, hN9⟩
              obtain ⟨gp, capp, e9, hgp, hrp⟩ := hN9.row (stL_ne _)
              rw [stL_length] at e9
              subst e9
              have hI6 := hI5.kept hN9.2
              have hgsp : gs < gp := Nat.lt_of_lt_of_le hI5.s.lt hgp
              have hgkp : gk < gp := Nat.lt_of_lt_of_le hI5.k.lt hgp
              have hwp : w.heap.size ≤ gp := Nat.le_trans hI5.b.size hgp
              clear hI5 hN9 hgp
              have hcap := hI6.s.cap
              rw [stL_length] at hcap
              have hcapp := hrp.cap
              rw [stL_length] at hcapp
              have c0 := hI6.s.cell (j := 0) (by rw [stL_length]; omega)
              rw [stL_get _ _ (by omega)] at c0
              have cp0 := hrp.cell (j := 0) (by rw [stL_length]; omega)
              have fp := hrp.free 0
              have HS : Hid (RowAt .u64 23 gp capp (stL (ppQ G 0)) (w6.setCell ⟨gp, 0, none⟩ (.int .u64 ((G 0 : Nat) : Int)))) := by
                rw [← ppQ_zero]
                exact hrp.set 0 _
              have HI7 : Hid (FastI w gs caps gk capk (stL G) (w6.setCell ⟨gp, 0, none⟩ (.int .u64 ((G 0 : Nat) : Int)))) := hI6.other (p := ⟨gp, 0, none⟩) (by show gp ≠ gs; omega) (by show gp ≠ gk; omega) hwp _
              generalize G 0 = q at c0 HS HI7
              generalize (stL (fun _ => 0)).getD 0 0 = q2 at cp0
              clear hI6 hrp
              go_wp2_with fail
              clear c0 cp0 fp
              generalize w6.setCell ⟨gp, 0, none⟩ (.int .u64 (q : Int)) = w7 at HS HI7
              go_loopw [10, 11, 12] (fun xv yv i wr => ∃ T x y : Nat, T ≤ 24 ∧ x < 5 ∧ y < 5 ∧ i = .int .i64 T ∧ xv = .int .i64 x ∧ yv = .int .i64 y ∧ Hid (rhXY T = (x, y)) ∧ FastI w gs caps gk capk (stL G) wr ∧ RowAt .u64 23 gp capp (stL (ppQ G T)) wr) (fun _ _ i _ => 24 - (intOf i).toNat)
              case atStart => exact ⟨0, 1, 0, by omega, by omega, by omega, rfl, rfl, rfl, rfl, HI7.out, HS.out⟩
              case round =>
                obtain ⟨T, x, y, hT, hx, hy, rfl, rfl, rfl, HXY, hI8, hrp8⟩ := hrel
                clear HI7 HS
                by_cases hT24 : T < 24
                · have HP : Hid (rhPos T = x + 5 * y) := by show rhPos T = _; unfold rhPos; rw [HXY.out]
                  have HXY2 : Hid (rhXY (T + 1) = (y, (2 * x + 3 * y) % 5)) := by show rhXY (T + 1) = _; unfold rhXY; rw [HXY.out]
                  have HP2 : Hid (rhPos (T + 1) = y + 5 * ((2 * x + 3 * y) % 5)) := by show rhPos (T + 1) = _; unfold rhPos; rw [HXY2.out]
                  obtain ⟨p, hp⟩ : ∃ p : Nat, p = (T + 1) * (T + 2) := ⟨_, rfl⟩
                  have hpb : p ≤ 600 := by
                    rw [hp]
                    exact Nat.le_trans (Nat.mul_le_mul (show T + 1 ≤ 24 by omega) (show T + 2 ≤ 25 by omega)) (by decide)
                  have hpi : ((T : Int) + 1) * ((T : Int) + 2) = (p : Int) := by rw [hp]; simp
                  obtain ⟨bb, hbb⟩ : ∃ bb : Nat, bb = p / 2 % 64 := ⟨_, rfl⟩
                  have hbl : bb < 64 := by omega
                  have HBI : Hid ((p : Int) / 2 % 64 = (bb : Int)) := by show (p : Int) / 2 % 64 = _; omega
                  have HBy : Hid (rhBy T = bb) := by rw [hbb, hp]; rfl
                  have c0 := hI8.s.cell (j := x + 5 * y) (by rw [stL_length]; omega)
                  rw [stL_get _ _ (by omega)] at c0
                  have cp := hrp8.cell (j := y + 5 * ((2 * x + 3 * y) % 5)) (by rw [stL_length]; omega)
                  have fp := hrp8.free (y + 5 * ((2 * x + 3 * y) % 5))
                  have hq := HG.out (x + 5 * y)
                  have HS : Hid (∀ z : Int, z = ((turnN (G (x + 5 * y)) bb : Nat) : Int) → RowAt .u64 23 gp capp (stL (ppQ G (T + 1))) (wr.setCell ⟨gp, y + 5 * ((2 * x + 3 * y) % 5), none⟩ (.int .u64 z))) := by
                    intro z hz
                    rw [← ppQ_set G T hT24, HP.out, HP2.out, HBy.out, ← hz]
                    exact hrp8.set _ _
                  have HI9 : Hid (∀ u, FastI w gs caps gk capk (stL G) (wr.setCell ⟨gp, y + 5 * ((2 * x + 3 * y) % 5), none⟩ u)) := fun u => hI8.other (p := ⟨gp, y + 5 * ((2 * x + 3 * y) % 5), none⟩) (by show gp ≠ gs; omega) (by show gp ≠ gk; omega) hwp u
                  generalize G (x + 5 * y) = q0 at c0 HS hq
                  generalize (stL (ppQ G T)).getD (y + 5 * ((2 * x + 3 * y) % 5)) 0 = q3 at cp
                  have j1 : (x : Int) + 5 * (y : Int) < 25 := by omega
                  have j2 : (y : Int) + 5 * ((2 * (x : Int) + 3 * (y : Int)) % 5) < 25 := by omega
                  clear hp hbb hI8 hrp8
                  go_wp2_with fail
                  refine (turn_any q0 bb _ _ rfl (by have := HBI.out; omega) hq hbl _).mono ?_
                  rintro e w' ⟨rfl, rfl⟩
                  clear hpi
                  go_wp2
                  go_roundw
                  case rel => exact ⟨T + 1, y, (2 * x + 3 * y) % 5, by omega, by omega, by omega, by go_num, rfl, by go_num, HXY2, HI9.out _, HS.out _ rfl⟩
                  case measure => simp [intOf]; omega
                · have hTe : T = 24 := by omega
                  have hd4 : decide ((T : Int) < 24) = false := decide_eq_false (by omega)
                  have hT6 : (24 : Int) ≤ T := by omega
                  rw [hTe, ppQ_done] at hrp8
                  clear hTe HXY
                  have HH : Hid (∀ i, piF (rhL G) i < 18446744073709551616) := piF_lt _ (rhL_lt G HG.out)
                  generalize piF (rhL G) = H at hrp8 HH HN2
                  rw [upQ_zero G (chL H)] at hI8
                  go_wp2_with fail
                  go_loopw [14] (fun i wr => ∃ K : Nat, K ≤ 25 ∧ i = .int .i64 K ∧ FastI w gs caps gk capk (stL (upQ G (chL H) K)) wr ∧ RowAt .u64 23 gp capp (stL H) wr) (fun i _ => 25 - (intOf i).toNat)
                  case atStart => exact ⟨0, by omega, rfl, hI8, hrp8⟩
                  case round =>
                    obtain ⟨L, hL, rfl, hI9, hrp9⟩ := hrel
                    clear hI8 hrp8
                    by_cases hL25 : L < 25
                    · have hcap := hI9.s.cap
                      rw [stL_length] at hcap
                      have hcapp := hrp9.cap
                      rw [stL_length] at hcapp
                      obtain ⟨k5, hk5⟩ : ∃ m : Nat, m = L % 5 := ⟨_, rfl⟩
                      obtain ⟨m2, hm2⟩ : ∃ m : Nat, m = (L % 5 + 2) % 5 := ⟨_, rfl⟩
                      obtain ⟨m1, hm1⟩ : ∃ m : Nat, m = (L % 5 + 1) % 5 := ⟨_, rfl⟩
                      obtain ⟨r5, hr5⟩ : ∃ m : Nat, m = L - L % 5 := ⟨_, rfl⟩
                      have HC : Hid _ := chI H HH.out L
                      rw [← hr5, ← hm2, ← hm1] at HC
                      have c0 := hrp9.cell (j := L) (by rw [stL_length]; omega)
                      have c1 := hrp9.cell (j := r5 + m1) (by rw [stL_length]; omega)
                      have c2 := hrp9.cell (j := r5 + m2) (by rw [stL_length]; omega)
                      rw [stL_get _ _ (by omega)] at c0 c1 c2
                      have cs := hI9.s.cell (j := L) (by rw [stL_length]; omega)
                      have fs := hI9.s.free L
                      have HS : Hid (∀ z : Int, z = ((chL H L : Nat) : Int) → FastI w gs caps gk capk (stL (upQ G (chL H) (L + 1))) (wr.setCell ⟨gs, L, none⟩ (.int .u64 z))) := by
                        intro z hz
                        rw [← upQ_set, ← hz]
                        exact hI9.set hgs hlt L z
                      have HRP : Hid _ := hrp9
                      generalize H L = q0 at c0 HC
                      generalize H (r5 + m1) = q1 at c1 HC
                      generalize H (r5 + m2) = q2 at c2 HC
                      generalize (stL (upQ G (chL H) L)).getD L 0 = q3 at cs
                      have u0 : (L : Int) % 5 = (k5 : Int) := by omega
                      have u2 : ((k5 : Int) + 2) % 5 = (m2 : Int) := by omega
                      have u1 : ((k5 : Int) + 1) % 5 = (m1 : Int) := by omega
                      have t0 : (L : Int).tmod 5 = (k5 : Int) := by rw [hk5]; exact Int.tmod_eq_emod_of_nonneg (by omega)
                      have t1 : ((k5 : Int) + 1).tmod 5 = (m1 : Int) := by rw [Int.tmod_eq_emod_of_nonneg (by omega)]; omega
                      have v1 : IntKind.i64.wrap ((k5 : Int) + 1) = (k5 : Int) + 1 := IntWalk.i64_in _ (by omega)
                      have r0 : (L : Int) - (k5 : Int) = (r5 : Int) := by omega
                      have b1 : (r5 : Int) + (m1 : Int) < 25 := by omega
                      have b2 : (r5 : Int) + (m2 : Int) < 25 := by omega
                      have b3 : 0 ≤ (r5 : Int) + (m1 : Int) := by omega
                      have v2 : IntKind.i64.wrap ((r5 : Int) + (m1 : Int)) = (r5 : Int) + (m1 : Int) := IntWalk.i64_in _ (by omega)
                      have n1 : ((r5 : Int) + (m1 : Int)).toNat = r5 + m1 := by omega
                      have k5b : k5 < 5 := by omega
                      have m1b : m1 < 5 := by omega
                      have m2b : m2 < 5 := by omega
                      have r5b : r5 ≤ 20 := by omega
                      have hLi : (L : Int) < 25 := by omega
                      clear hI9 hrp9 hk5 hm2 hm1 hr5
                      go_wp2_with fail
                      refine wpE_begin 21 (by kernel_rfl) ?_
                      refine eU_ 0 rfl ⟨_, by intro W hW; go_simp <;> with_reducible rfl, ?_⟩
                      try simp only [Act.put, pA_, pB_, pC_]
                      refine eU_ 1 rfl ⟨_, by intro W hW; go_simp <;> with_reducible rfl, ?_⟩
                      try simp only [Act.put, pA_, pB_, pC_]
                      refine eU_ 2 rfl ⟨_, by intro W hW; go_simp <;> with_reducible rfl, ?_⟩
                      try simp only [Act.put, pA_, pB_, pC_]
                      refine eU_ 3 rfl ⟨_, by intro W hW; go_simp <;> with_reducible rfl, ?_⟩
                      try simp only [Act.put, pA_, pB_, pC_]
                      refine eU_ 4 rfl ⟨_, by intro W hW; go_simp <;> with_reducible rfl, ?_⟩
                      try simp only [Act.put, pA_, pB_, pC_]
                      refine eU_ 5 rfl ⟨_, by intro W hW; have hcW := cellW c0 hW; go_simp <;> with_reducible rfl, ?_⟩
                      try simp only [Act.put, pA_, pB_, pC_]
                      refine eU_ 6 rfl ⟨_, by intro W hW; go_simp <;> with_reducible rfl, ?_⟩
                      try simp only [Act.put, pA_, pB_, pC_]
                      refine eU_ 7 rfl ⟨_, by intro W hW; go_simp <;> with_reducible rfl, ?_⟩
                      try simp only [Act.put, pA_, pB_, pC_]
                      refine eU_ 8 rfl ⟨_, by intro W hW; go_simp <;> with_reducible rfl, ?_⟩
                      try simp only [Act.put, pA_, pB_, pC_]
                      refine eU_ 9 rfl ⟨_, by intro W hW; go_simp <;> with_reducible rfl, ?_⟩
                      try simp only [Act.put, pA_, pB_, pC_]
                      refine eU_ 10 rfl ⟨_, by intro W hW; go_simp <;> with_reducible rfl, ?_⟩
                      try simp only [Act.put, pA_, pB_, pC_]
                      refine eU_ 11 rfl ⟨_, by intro W hW; go_simp <;> with_reducible rfl, ?_⟩
                      try simp only [Act.put, pA_, pB_, pC_]
                      refine eU_ 12 rfl ⟨_, by intro W hW; go_simp <;> with_reducible rfl, ?_⟩
                      try simp only [Act.put, pA_, pB_, pC_]
                      refine eU_ 13 rfl ⟨_, by intro W hW; go_simp <;> with_reducible rfl, ?_⟩
                      try simp only [Act.put, pA_, pB_, pC_]
                      refine eU_ 14 rfl ⟨_, by intro W hW; go_simp <;> with_reducible rfl, ?_⟩
                      try simp only [Act.put, pA_, pB_, pC_]
                      refine eU_ 15 rfl ⟨_, by intro W hW; go_simp <;> with_reducible rfl, ?_⟩
                      try simp only [Act.put, pA_, pB_, pC_]
                      refine eU_ 16 rfl ⟨_, by intro W hW; have hcW := cellW c1 hW; go_simp <;> with_reducible rfl, ?_⟩
                      try simp only [Act.put, pA_, pB_, pC_]
                      refine eU_ 17 rfl ⟨_, by intro W hW; go_simp <;> with_reducible rfl, ?_⟩
                      try simp only [Act.put, pA_, pB_, pC_]
                      refine eU_ 18 rfl ⟨_, by intro W hW; go_simp <;> with_reducible rfl, ?_⟩
                      try simp only [Act.put, pA_, pB_, pC_]
                      refine eU_ 19 rfl ⟨_, by intro W hW; go_simp <;> with_reducible rfl, ?_⟩
                      try simp only [Act.put, pA_, pB_, pC_]
                      refine eU_ 20 rfl ⟨_, by intro W hW; go_simp <;> with_reducible rfl, ?_⟩
                      try simp only [Act.put, pA_, pB_, pC_]
                      refine eL_ fun K hK => ?_
                      go_simp
                      refine hK.out _ _ ?_
                      clear hK K
                      try simp only [Act.put, pA_, pB_, pC_]
                      go_wp2
                      go_roundw
                      case rel => exact ⟨L + 1, by omega, by go_num, (HS.out _ HC.out).drew, (RowAt.other HRP.out (p := ⟨gs, L, none⟩) (by show gs ≠ gp; omega) _).drew⟩
                      case measure => simp [intOf]; omega
                    · have hLe : L = 25 := by omega
                      have hd5 : decide ((L : Int) < 25) = false := decide_eq_false (by omega)
                      have hL6 : (25 : Int) ≤ L := by omega
                      rw [hLe, upQ_done] at hI9
                      clear hLe hrp9
                      have hcap := hI9.s.cap
                      rw [stL_length] at hcap
                      have hcapk := hI9.k.cap
                      rw [show (kst.map fun x => ((x : Nat) : Int)).length = 24 from by simp [kst]] at hcapk
                      have c0 := hI9.s.cell (j := 0) (by rw [stL_length]; omega)
                      rw [stL_get _ _ (by omega)] at c0
                      have c1 := hI9.k.cell (j := J) (by simp [kst]; omega)
                      rw [kst_getI J hJ24] at c1
                      have fs := hI9.s.free 0
                      have HC : Hid _ := xorI (chL H 0) (kst.getD J 0) (chL_lt H HH.out 0) (kst_lt J hJ24)
                      have HS : Hid (∀ z : Int, z = ((chL H 0 ^^^ kst.getD J 0 : Nat) : Int) → FastI w gs caps gk capk (stL (rdsL f (J + 1))) (wr.setCell ⟨gs, 0, none⟩ (.int .u64 z))) := by
                        intro z hz
                        rw [HN2.out, ← ioKI, ← hz]
                        exact hI9.set hgs hlt 0 z
                      generalize chL H 0 = q0 at c0 HC HS
                      generalize kst.getD J 0 = q1 at c1 HC HS
                      have hJi : (J : Int) < 24 := by omega
                      clear hI9
                      go_wp2_with fail
                      refine wpE_begin 10 (by kernel_rfl) ?_
                      refine eU_ 0 rfl ⟨_, by intro W hW; go_simp <;> with_reducible rfl, ?_⟩
                      try simp only [Act.put, pA_, pB_, pC_]
                      refine eU_ 1 rfl ⟨_, by intro W hW; go_simp <;> with_reducible rfl, ?_⟩
                      try simp only [Act.put, pA_, pB_, pC_]
                      refine eU_ 2 rfl ⟨_, by intro W hW; go_simp <;> with_reducible rfl, ?_⟩
                      try simp only [Act.put, pA_, pB_, pC_]
                      refine eU_ 3 rfl ⟨_, by intro W hW; have hcW := cellW c0 hW; go_simp <;> with_reducible rfl, ?_⟩
                      try simp only [Act.put, pA_, pB_, pC_]
                      refine eU_ 4 rfl ⟨_, by intro W hW; go_simp <;> with_reducible rfl, ?_⟩
                      try simp only [Act.put, pA_, pB_, pC_]
                      refine eU_ 5 rfl ⟨_, by intro W hW; go_simp <;> with_reducible rfl, ?_⟩
                      try simp only [Act.put, pA_, pB_, pC_]
                      refine eU_ 6 rfl ⟨_, by intro W hW; go_simp <;> with_reducible rfl, ?_⟩
                      try simp only [Act.put, pA_, pB_, pC_]
                      refine eU_ 7 rfl ⟨_, by intro W hW; have hcW := cellW c1 hW; go_simp <;> with_reducible rfl, ?_⟩
                      try simp only [Act.put, pA_, pB_, pC_]
                      refine eU_ 8 rfl ⟨_, by intro W hW; go_simp <;> with_reducible rfl, ?_⟩
                      try simp only [Act.put, pA_, pB_, pC_]
                      refine eU_ 9 rfl ⟨_, by intro W hW; go_simp <;> with_reducible rfl, ?_⟩
                      try simp only [Act.put, pA_, pB_, pC_]
                      refine eL_ fun K hK => ?_
                      go_simp
                      refine hK.out _ _ ?_
                      clear hK K
                      try simp only [Act.put, pA_, pB_, pC_]
                      go_wp2
                      go_roundw
                      case rel => exact ⟨J + 1, by omega, by go_num, (HS.out _ HC.out).drew⟩
                      case measure => simp [intOf]; omega
    · have hJe : J = 24 := by omega
      rw [hJe, rdsL_st f Hf.out] at hI2
      clear hJe
      have hge : (24 : Int) ≤ J := by omega
      have hfin := hI2.s.new hgs hI2.b
      rw [stL_length] at hfin
      go_wp2
      go_ret
      exact ⟨_, rfl, hfin⟩
end Go.Proofs.YtfiefohdceokdaaDoor

/- What comes out of a state, as the document says it: a contract of the reference of layer 3, second part. -/
namespace Go.Proofs.YtfiefohdceokdaaDoor
open Go.ChangeShapes Go.WideShapes Go.ChangeAt Go.RowKit
set_option linter.unusedSimpArgs false
set_option linter.unusedVariables false


/-- A row of another kind of cells is as it was behind an append. -/
theorem NewI.past {k : IntKind} {e e' : TypeId} {w w2 w3 : World} {v o : Value} {l : List Int} {lo : List UInt8} (h : NewI k e w v l w2) (ho : New e' w o lo w2) (hne : e ≠ e') (hg : w2.grownBy w3 o.ownBlock) (hb : Below w.heap.size w w3) : NewI k e w v l w3 := by
  refine ⟨⟨h.1.1, h.1.2.imp id ?_⟩, hb⟩
  rintro ⟨g, cap, cur, e1, h2, h3, h4⟩
  refine ⟨g, cap, cur, e1, h2, ?_, h4⟩
  rw [hg.block g (Array.getElem?_eq_some_iff.1 h3).1 ?_, h3]
  intro hc
  rcases ho.1.2 with ⟨rfl, _⟩ | ⟨g', cap', cur', rfl, _, h3', _⟩
  · cases hc
  · simp only [Value.ownBlock, Option.some.injEq] at hc
    subst hc
    rw [h3] at h3'
    simp only [Option.some.injEq, Obj.cells.injEq] at h3'
    exact hne h3'.2.1
theorem NewI.from {k : IntKind} {e : TypeId} {w wr w2 : World} {v : Value} {l : List Int} (h : NewI k e wr v l w2) (hb : Below w.heap.size w wr) : NewI k e w v l w2 := by
  refine ⟨⟨h.1.1, h.1.2.imp id ?_⟩, hb.trans (h.2.mono hb.size)⟩
  rintro ⟨g, cap, cur, e1, h2, h3⟩
  exact ⟨g, cap, cur, e1, Nat.le_trans hb.size h2, h3⟩
/-- A state that lies where it lay at the start, or in new memory. -/
def AtI (e : TypeId) (w : World) (va : Value) (v : Value) (f : Nat → Nat) (wr : World) : Prop := (v = va ∧ RdI .u64 w va (stL f) ∧ Below w.heap.size w wr) ∨ NewI .u64 e w v (stL f) wr
theorem AtI.rd {e : TypeId} {w wr : World} {va v : Value} {f : Nat → Nat} (h : AtI e w va v f wr) : RdI .u64 wr v (stL f) := by
  rcases h with ⟨rfl, h, hb⟩ | h
  · exact h.kept hb
  · exact h.rd
theorem AtI.kept {e : TypeId} {w wr w2 : World} {va v : Value} {f : Nat → Nat} (h : AtI e w va v f wr) (hb : Below wr.heap.size wr w2) : AtI e w va v f w2 := by
  rcases h with ⟨rfl, h, hb0⟩ | h
  · exact .inl ⟨rfl, h, stepB hb0 hb⟩
  · exact .inr (h.kept hb)
theorem AtI.past {e e' : TypeId} {w w2 w3 : World} {va v o : Value} {f : Nat → Nat} {lo lo' : List UInt8} {o' : Value} (h : AtI e w va v f w2) (ho : New e' w o lo w2) (hne : e ≠ e') (hg : w2.grownBy w3 o.ownBlock) (ho' : New e' w o' lo' w3) : AtI e w va v f w3 := by
  rcases h with ⟨rfl, h, hb0⟩ | h
  · exact .inl ⟨rfl, h, ho'.2⟩
  · exact .inr (h.past ho hne hg ho'.2)

set_option maxHeartbeats 1000000 in
theorem out_any (va : Value) (f : Nat → Nat) (hf : ∀ i, f i < 18446744073709551616) (r n : Nat) (h1 : 0 < r) (h2 : r ≤ 200) (hn : n ≤ 1000000) (w : World) (hr : RdI .u64 w va (stL f)) :
    Calls Tryd.prog 28 #[va, .int .i64 (r : Int), .int .i64 (n : Int)] w fun e w' => ∃ v, e = .returned v ∧ Rd w' v (otL f r n) ∧ Below w.heap.size w w' := by
  have HF : Hid (∀ i, f i < 18446744073709551616) := hf
  clear hf
  go_enter Tryd.func28, Tryd.ntmps28
  go_wp2
  go_loopw [0, 7] (fun v o wr => ∃ m : Nat, m * r ≤ n + r ∧ New 5 w o (otL f r (m * r)) wr ∧ (n ≤ m * r ∨ AtI 23 w va v (itF f m) wr)) (fun _ o _ => n - sLen o)
  case atStart => exact ⟨0, by omega, by rw [Nat.zero_mul]; exact New.start w, .inr (.inl ⟨rfl, hr, Below.refl _ _⟩)⟩
  case round =>
    obtain ⟨m, hm, hN, hR⟩ := hrel
    clear hr
    obtain ⟨a, cap, rfl, hcap, hmax, hnil, -⟩ := hN.rd
    rw [otL_length] at hcap
    have el := otL_length f r (m * r)
    rw [el] at hN ⊢
    clear el
    obtain ⟨L, hL⟩ : ∃ L : Nat, L = m * r := ⟨_, rfl⟩
    have HL : Hid (L = m * r) := hL
    rw [← hL] at hm hN hR hcap ⊢
    clear hL
    by_cases hlt : L < n
    · have hd : decide ((L : Int) < (n : Int)) = true := decide_eq_true (by omega)
      have hLI : (L : Int) < n := by omega
      have hR2 : AtI 23 w va u0 (itF f m) wr := hR.resolve_left (by omega)
      clear hR
      go_wp2_with fail
      refine (bytes_any _ (itF f m) (itF_lt f HF.out m) _ hR2.rd).mono ?_
      rintro e w2 ⟨v2, rfl, hN2⟩
      obtain ⟨a2, cap2, rfl, hcap2, hmax2, hnil2, -⟩ := hN2.rd
      rw [bsP_length] at hcap2
      have hN3 := hN.kept hN2.2
      have hR3 := hR2.kept hN2.2
      have hT := hN2.rd
      rw [bsP_length] at hT
      replace hT := hT.take (n := r) (by omega)
      rw [bsP_take _ _ _ h2] at hT
      have el := bsP_length (itF f m) 200
      rw [el]
      clear el hN hN2 hR2
      have hrI : (r : Int) ≤ cap2 := by omega
      have HE : Hid _ := otL_next f r m h1
      rw [← HL.out] at HE
      have HB : Hid ((m + 1) * r = L + r) := by
        have := HL.out
        show (m + 1) * r = L + r
        rw [Nat.add_mul, Nat.one_mul, this]
      go_wp2_with (at_builtin; go_must (refine wpList_append_new (w := w) rfl _ _ 22 rfl 5 Tryd.underlying22 infoU8 _ _ rfl hN3 _ _ rfl hT (by simp [otL_length, bsP_length]; omega) ?_))
      intro v' w3 hN4 hgr
      have hR4 := hR3.past hN3 (by decide) hgr hN4
      rw [HE.out, HB.out] at hN4
      clear hN3 hR3 hT hgr HE
      obtain ⟨a4, cap4, rfl, hcap4, hmax4, hnil4, -⟩ := hN4.rd
      rw [otL_length] at hcap4
      have el := otL_length f r (L + r)
      rw [el] at hN4 ⊢
      clear el
      by_cases hlt2 : L + r < n
      · have hd2 : decide (((L : Int) + (r : Int)) < (n : Int)) = true := decide_eq_true (by omega)
        have hd3 : decide (((L + r : Nat) : Int) < (n : Int)) = true := decide_eq_true (by omega)
        have hLI2 : (L : Int) + (r : Int) < n := by omega
        go_wp2_with fail
        refine (fast_any _ (itF f m) (itF_lt f HF.out m) _ hR4.rd).mono ?_
        rintro e w5 ⟨v5, rfl, hN5⟩
        have hN6 := hN4.kept hN5.2
        have hR6 : AtI 23 w va v5 (itF f (m + 1)) w5 := .inr (hN5.from hN4.2)
        clear hN5 hN4 hR4
        go_wp2
        go_roundw
        case rel => exact ⟨m + 1, by rw [HB.out]; omega, by rw [HB.out]; exact hN6, .inr hR6⟩
        case measure => simp [sLen]; omega
      · have hd2 : decide (((L : Int) + (r : Int)) < (n : Int)) = false := decide_eq_false (by omega)
        have hd3 : decide (((L + r : Nat) : Int) < (n : Int)) = false := decide_eq_false (by omega)
        have hLI2 : (n : Int) ≤ (L : Int) + (r : Int) := by omega
        go_wp2
        go_roundw
        case rel => exact ⟨m + 1, by rw [HB.out]; omega, by rw [HB.out]; exact hN4, .inl (by rw [HB.out]; omega)⟩
        case measure => simp [sLen]; omega
    · have hd : decide ((L : Int) < (n : Int)) = false := decide_eq_false (by omega)
      have hLI : (n : Int) ≤ L := by omega
      have hT := hN.rd.take (n := n) (by omega)
      rw [otL_take _ _ _ _ (by omega)] at hT
      have hb := hN.2
      have hnc : (n : Int) ≤ cap := by omega
      clear hN hR
      cases a with
      | none =>
        have h0 := hnil rfl
        subst h0
        have hL0 : L = 0 := by omega
        have hn0 : n = 0 := by omega
        subst hL0 hn0
        go_wp2
        go_ret
        exact ⟨_, rfl, hT, hb⟩
      | some p =>
        go_wp2
        go_ret
        exact ⟨_, rfl, hT, hb⟩
end Go.Proofs.YtfiefohdceokdaaDoor

/- What the document's own Absorb answers, for all bytes, rates and suffixes: a contract of the reference of layer 3, third part. -/
namespace Go.Proofs.YtfiefohdceokdaaDoor
open Go.ChangeShapes Go.WideShapes Go.ChangeAt Go.RowKit
set_option linter.unusedSimpArgs false
set_option linter.unusedVariables false

/-- Bytes as numbers. -/
def bI (l : List UInt8) : List Int := l.map fun x => (x.toNat : Int)
theorem bI_length (l : List UInt8) : (bI l).length = l.length := by simp [bI]
theorem bI_map (l : List UInt8) : (bI l).map (Value.int .u8) = l.map bv := by simp [bI, bv, Function.comp_def]
theorem bI_get (l : List UInt8) (j : Nat) (h : j < l.length) : (bI l).getD j 0 = ((l.getD j 0).toNat : Int) := by simp [bI, h]
theorem bI_set (l : List UInt8) (j : Nat) (x : UInt8) : (bI l).set j (x.toNat : Int) = bI (l.set j x) := by simp [bI, List.map_set]
theorem New.toI {e : TypeId} {w w' : World} {v : Value} {l : List UInt8} (h : New e w v l w') : NewI .u8 e w v (bI l) w' := by
  refine ⟨?_, h.2⟩
  rw [bI_map, bI_length]
  exact h.1
theorem NewI.toB {e : TypeId} {w w' : World} {v : Value} {l : List UInt8} (h : NewI .u8 e w v (bI l) w') : New e w v l w' := by
  refine ⟨?_, h.2⟩
  have := h.1
  rw [bI_map, bI_length] at this
  exact this

set_option maxHeartbeats 1000000 in
theorem absorb_out (R S : Int) (hR : R < 1 ∨ 200 < R) (vb : Value) (w : World) :
    Calls Tryd.prog 29 #[.int .i64 R, .int .u8 S, vb] w fun e w' => ∃ v, e = .returned v ∧ RdI .u64 w' v (stL fun _ => 0) ∧ Below w.heap.size w w' := by
  obtain ⟨i, hi, hz0, hz1, hz2⟩ := info_parts infoU64
  rcases hR with h | h
  · have hd : decide (R < 1) = true := decide_eq_true h
    go_enter Tryd.func29, Tryd.ntmps29
    go_wp2_with (at_make; go_must (refine wpList_make_full _ rfl _ _ 45 rfl w.heap.size 23 i _ 1 Tryd.underlying45 hi hz0 hz1 _ _ _ _ 25 rfl rfl rfl rfl (by rw [hz2]; omega) (by unfold maxLen; omega) (Nat.le_refl _) ?_))
    intro w1 hown hgr
    have hN := NewI.made hown hgr
    rw [stL_zero] at hN
    clear hown hgr
    go_wp2
    go_ret
    exact ⟨_, rfl, hN.rd, hN.2⟩
  · have hd : decide (R < 1) = false := decide_eq_false (by omega)
    have hd2 : decide (200 < R) = true := decide_eq_true h
    have h1 : ¬ R < 1 := by omega
    go_enter Tryd.func29, Tryd.ntmps29
    go_wp2_with (at_make; go_must (refine wpList_make_full _ rfl _ _ 45 rfl w.heap.size 23 i _ 1 Tryd.underlying45 hi hz0 hz1 _ _ _ _ 25 rfl rfl rfl rfl (by rw [hz2]; omega) (by unfold maxLen; omega) (Nat.le_refl _) ?_))
    intro w1 hown hgr
    have hN := NewI.made hown hgr
    rw [stL_zero] at hN
    clear hown hgr
    go_wp2
    go_ret
    exact ⟨_, rfl, hN.rd, hN.2⟩

theorem AtI.b {e : TypeId} {w wr : World} {va v : Value} {f : Nat → Nat} (h : AtI e w va v f wr) : Below w.heap.size w wr := by
  rcases h with ⟨rfl, _, hb⟩ | h
  · exact hb
  · exact h.2
theorem cellY {w W : World} {p : Addr} {v : Value} (h : w.cell? p = some v) (hb : Below w.drew.heap.size w.drew W) : W.cell? p = some v := by
  have h1 : w.drew.cell? p = some v := h
  rw [hb.cell (World.block_lt_of_cell? _ _ h1)]
  exact h1
set_option maxRecDepth 100000 in
set_option maxHeartbeats 4000000 in
theorem absorb_in (r : Nat) (h1 : 0 < r) (h2 : r ≤ 200) (s : UInt8) (vb : Value) (l : List UInt8) (hl : l.length ≤ 1000000) (w : World) (hr : Rd w vb l) :
    Calls Tryd.prog 29 #[.int .i64 (r : Int), .int .u8 (s.toNat : Int), vb] w fun e w' => ∃ v, e = .returned v ∧ RdI .u64 w' v (stL (abN r (padL r s l) (blN r l))) ∧ Below w.heap.size w w' := by
  obtain ⟨i, hi, hz0, hz1, hz2⟩ := info_parts infoU64
  have hd1 : decide ((r : Int) < 1) = false := decide_eq_false (by omega)
  have hd2 : decide ((200 : Int) < (r : Int)) = false := decide_eq_false (by omega)
  have hr1 : ¬ (r : Int) < 1 := by omega
  have hr2 : ¬ (200 : Int) < (r : Int) := by omega
  have hr0 : ((r : Int) == 0) = false := by simp; omega
  have hrp : (0 : Int) < (r : Int) := by omega
  go_enter Tryd.func29, Tryd.ntmps29
  go_wp2_with (at_make; go_must (refine wpList_make_full _ rfl _ _ 45 rfl w.heap.size 23 i _ 1 Tryd.underlying45 hi hz0 hz1 _ _ _ _ 25 rfl rfl rfl rfl (by rw [hz2]; omega) (by unfold maxLen; omega) (Nat.le_refl _) ?_))
  intro w1 hown hgr
  have hA := NewI.made hown hgr
  rw [stL_zero] at hA
  have hr1' := hr.kept hA.2
  clear hown hgr hi hz0 hz1 hz2 hr
  go_wp2_with (at_builtin; go_must (refine wpList_append_new (w := w1) rfl _ _ 22 rfl 5 Tryd.underlying22 infoU8 _ _ rfl (New.start w1) _ _ rfl hr1' (by simp; omega) ?_))
  intro v2 w2 hN2 _
  clear hr1'
  go_wp2_with (at_builtin; go_must (refine wpList_append_new (w := w1) rfl _ _ 22 rfl 5 Tryd.underlying22 infoU8 _ _ rfl (hN2.alloc _) _ _ rfl (Rd.lit1 s rfl) (by simp; omega) ?_))
  intro v3 w3 hN3 _
  clear hN2
  have hN4 : New 5 w1 v3 (pdP s l 0) w3 := by simpa [pdP] using hN3
  clear hN3
  go_wp2
  go_loopw [8] (fun v wr => ∃ z : Nat, z ≤ zN r l.length ∧ New 5 w1 v (pdP s l z) wr) (fun v _ => l.length + 1 + zN r l.length - sLen v)
  case atStart => exact ⟨0, by omega, hN4⟩
  case round =>
    obtain ⟨z, hz, hN5⟩ := hrel
    clear hN4
    obtain ⟨a, cap, rfl, hcap, hmax, hnil, -⟩ := hN5.rd
    have el := pdP_length s l z
    rw [el] at hcap hN5 ⊢
    clear el
    have hzr := zN_lt r l.length h1
    obtain ⟨L, hL⟩ : ∃ L : Nat, L = l.length + 1 + z := ⟨_, rfl⟩
    have HL : Hid (L = l.length + 1 + z) := hL
    obtain ⟨q, hq⟩ : ∃ q : Nat, q = L % r := ⟨_, rfl⟩
    have t1 : (L : Int).tmod (r : Int) = (q : Int) := by rw [hq]; exact Int.tmod_eq_emod_of_nonneg (by omega)
    have t2 : (L : Int) % (r : Int) = (q : Int) := by rw [hq]; simp
    rw [← hL] at hcap hN5 ⊢
    by_cases hlt : z < zN r l.length
    · have hq0 : q ≠ 0 := by
        rw [hq, hL]
        exact zN_least r l.length z h1 hlt
      have hd : (((q : Nat) : Int) != 0) = true := by simp; omega
      have hqi : ((q : Int)) ≠ 0 := by omega
      clear hq hL
      go_wp2_with (at_builtin; go_must (refine wpList_append_new (w := w1) rfl _ _ 22 rfl 5 Tryd.underlying22 infoU8 _ _ rfl (hN5.alloc _) _ _ rfl (Rd.lit1 0 rfl) (by simp [pdP_length]; have := HL.out; omega) ?_))
      intro v6 w6 hN6 _
      rw [pdP_next] at hN6
      obtain ⟨a6, cap6, rfl, hcap6, hmax6, hnil6, -⟩ := hN6.rd
      have el := pdP_length s l (z + 1)
      rw [el] at hN6 ⊢
      clear el hcap6 hmax6 hnil6
      have hLe := HL.out
      go_wp2
      go_roundw
      case rel => exact ⟨z + 1, by omega, hN6⟩
      case measure => simp [sLen]; omega
    · have hze : z = zN r l.length := by omega
      have hq0 : q = 0 := by
        rw [hq, hL, hze]
        exact zN_full r l.length h1
      have hd : (((q : Nat) : Int) != 0) = false := by rw [hq0]; rfl
      have hqi : ((q : Int)) = 0 := by omega
      obtain ⟨J, hJ⟩ : ∃ J : Nat, J = l.length + z := ⟨_, rfl⟩
      have hLJ : L = J + 1 := by omega
      have hne : pdP s l z ≠ [] := by
        intro h
        have := pdP_length s l z
        rw [h] at this
        simp at this
        omega
      obtain ⟨g, cap', ev, hg, hrow⟩ := hN5.toI.row (by intro h; apply hne; simpa [bI] using h)
      simp only [Value.slice.injEq] at ev
      obtain ⟨rfl, -, rfl⟩ := ev
      have hbw := hN5.2
      have hc := hrow.cell (j := J) (by rw [bI_length, pdP_length]; omega)
      have hcf := hrow.free J
      rw [bI_get _ _ (by rw [pdP_length]; omega)] at hc
      have HX : Hid _ := byte_xor ((pdP s l z).getD J 0) 128
      have HW : Hid (∀ x : Int, x = (((pdP s l z).getD J 0 ^^^ 128).toNat : Int) → RowAt .u8 5 g cap (bI (padL r s l)) (wr.setCell ⟨g, J, none⟩ (.int .u8 x)) ∧ Below w1.heap.size w1 (wr.setCell ⟨g, J, none⟩ (.int .u8 x))) := by
        intro x hx
        have h3 := hrow.set J x
        rw [hx, bI_set] at h3
        have ep : (pdP s l z).set J ((pdP s l z).getD J 0 ^^^ 128) = padL r s l := by
          unfold padL
          rw [← hze, ← hJ]
        rw [ep, ← hx] at h3
        exact ⟨h3, hbw.setCell hg _⟩
      generalize (pdP s l z).getD J 0 = x at hc HX HW
      have wL : IntKind.i64.wrap ((L : Int) - 1) = (J : Int) := by rw [hLJ]; rw [show (((J + 1 : Nat) : Int) - 1) = (J : Int) by omega]; exact IntWalk.i64_in _ (by omega)
      have lJ : (J : Int) < (L : Int) := by omega
      have hJb : J ≤ 1000300 := by omega
      have hLb : L ≤ 1000300 := by omega
      have HPL : Hid ((padL r s l).length = L) := by
        show (padL r s l).length = L
        rw [padL_length, hL, hze]
      have HB : Hid (blN r l * r = L) := by
        show blN r l * r = L
        rw [blN_mul r l h1, hL, hze]
      clear hN5 hrow hne hq hL hze hq0 hJ hlt hbw hnil hz hzr hLJ
      go_wp2
      obtain ⟨hP, hbW⟩ := HW.out _ HX.out
      have e128 : (((128 : UInt8).toNat : Nat) : Int) = 128 := rfl
      rw [e128] at hP hbW
      generalize wr.setCell ⟨g, J, none⟩ (.int .u8 (bits .xor .u8 (x.toNat : Int) 128)) = W2 at hP hbW
      clear HW HX hc hcf wL lJ e128
      have hA2 := hA.rd.kept hbW
      have hb0 := stepB hA.2 hbW
      have hPr := hP.rd
      rw [bI_length, HPL.out] at hPr
      obtain ⟨P, hPP⟩ : ∃ P, P = padL r s l := ⟨_, rfl⟩
      rw [← hPP] at HPL hP hPr
      have HPP : Hid (P = padL r s l) := hPP
      clear hPP
      have HPr : Hid (Rd W2 (.slice (some ⟨g, 0, none⟩) L cap) P) := by
        have h3 : NewI .u8 5 w1 (.slice (some ⟨g, 0, none⟩) (bI P).length cap) (bI P) W2 := hP.new hg hbW
        have h4 := h3.toB.rd
        rw [bI_length, HPL.out] at h4
        exact h4
      clear hP hPr hbW
      obtain ⟨nb, hnb⟩ : ∃ nb, nb = blN r l := ⟨_, rfl⟩
      rw [← hnb] at HB
      have HNB : Hid (nb = blN r l) := hnb
      clear hnb
      go_loopw [7, 9] (fun v i wr2 => ∃ b I : Nat, Hid (I = b * r) ∧ b ≤ nb ∧ i = .int .i64 I ∧ AtI 23 W2 (.slice (some ⟨w.heap.size, 0, none⟩) 25 25) v (abN r P b) wr2) (fun _ i _ => L - (intOf i).toNat)
      case atStart => exact ⟨0, 0, by simp [Hid], by omega, rfl, .inl ⟨rfl, hA2, Below.refl _ _⟩⟩
      case round =>
        obtain ⟨b, I, HI, hb, rfl, hT⟩ := hrel
        clear hA2
        have hIL : I < L → I + r ≤ L ∧ b < nb := by
          intro h
          have e1 := HI.out
          have e2 := HB.out
          have h3 : b < nb := by
            rcases Nat.lt_or_ge b nb with h4 | h4
            · exact h4
            · have := Nat.mul_le_mul_right r h4
              omega
          have h5 := Nat.mul_le_mul_right r (show b + 1 ≤ nb from h3)
          rw [Nat.add_mul, Nat.one_mul] at h5
          exact ⟨by omega, h3⟩
        by_cases hlt : I < L
        · obtain ⟨hIr, hbn⟩ := hIL hlt
          clear hIL
          have hd5 : decide ((I : Int) < (L : Int)) = true := decide_eq_true (by omega)
          have hII : (I : Int) < (L : Int) := by omega
          go_wp2_with fail
          refine (bytes_any _ (abN r P b) (abN_lt r P b) _ hT.rd).mono ?_
          rintro e w5 ⟨v5, rfl, hN5⟩
          have hbT := hT.b
          clear hT
          have es := bsP_length (abN r P b) 200
          obtain ⟨g5, cap5, ev5, hg5, hrow5⟩ := hN5.toI.row (by intro h; have h6 := congrArg List.length h; rw [bI_length, es] at h6; simp at h6)
          rw [bI_length, es] at ev5
          subst ev5
          have hcap5 := hrow5.cap
          rw [bI_length, es] at hcap5
          have hb5 := hN5.2
          rw [xhP_zero _ P I es] at hrow5
          clear hN5
          obtain ⟨V, rfl⟩ : ∃ V, V = wr := ⟨_, rfl⟩
          go_wp2
          go_loopw [11] (fun k wr3 => ∃ K : Nat, K ≤ r ∧ k = .int .i64 K ∧ RowAt .u8 5 g5 cap5 (bI (xhP (bsP (abN r P b) 200) P I K)) wr3 ∧ Below V.heap.size V wr3) (fun k _ => r - (intOf k).toNat)
          case atStart => exact ⟨0, by omega, rfl, hrow5, hb5⟩
          case round =>
            obtain ⟨K, hK, rfl, hrow6, hb6⟩ := hrel
            clear hrow5 hb5
            by_cases hKlt : K < r
            · have hd6 : decide ((K : Int) < (r : Int)) = true := decide_eq_true (by omega)
              have hKI : (K : Int) < (r : Int) := by omega
              have hK2 : (K : Int) < 200 := by omega
              have cs := hrow6.cell (j := K) (by rw [bI_length, xhP_length]; omega)
              have fs := hrow6.free K
              rw [bI_get _ _ (by rw [xhP_length]; omega), xhP_get _ _ _ _ (by omega)] at cs
              obtain ⟨bb, off, cc, ev, _, cp, _⟩ := (HPr.out.kept (stepB hbT hb6)).cellAt (i := I + K) (by rw [HPL.out]; omega)
              simp only [Value.slice.injEq, Option.some.injEq, Addr.mk.injEq, and_true] at ev
              obtain ⟨⟨rfl, rfl⟩, -, rfl⟩ := ev
              rw [Nat.zero_add] at cp
              have HX : Hid _ := byte_xor ((bsP (abN r P b) 200).getD K 0) (P.getD (I + K) 0)
              have HS : Hid (∀ x : Int, x = (((bsP (abN r P b) 200).getD K 0 ^^^ P.getD (I + K) 0).toNat : Int) → RowAt .u8 5 g5 cap5 (bI (xhP (bsP (abN r P b) 200) P I (K + 1))) (wr.setCell ⟨g5, K, none⟩ (.int .u8 x)) ∧ Below V.heap.size V (wr.setCell ⟨g5, K, none⟩ (.int .u8 x))) := by
                intro x hx
                refine ⟨?_, hb6.setCell (p := ⟨g5, K, none⟩) hg5 _⟩
                have h7 := hrow6.set K x
                rw [hx, bI_set, xhP_set, ← hx] at h7
                exact h7
              generalize (bsP (abN r P b) 200).getD K 0 = y1 at cs HX HS
              generalize P.getD (I + K) 0 = y2 at cp HX HS
              have wI : IntKind.i64.wrap ((I : Int) + (K : Int)) = (I : Int) + (K : Int) := IntWalk.i64_in _ (by omega)
              have nI : ((I : Int) + (K : Int)).toNat = I + K := by omega
              have pI : 0 ≤ (I : Int) + (K : Int) := by omega
              have lI : (I : Int) + (K : Int) < (L : Int) := by omega
              clear hrow6 hb6
              go_wp2_with fail
              refine wpE_begin 14 (by kernel_rfl) ?_
              refine eU_ 0 rfl ⟨_, by intro W hW; go_simp <;> with_reducible rfl, ?_⟩
              try simp only [Act.put, pA_, pB_, pC_]
              refine eU_ 1 rfl ⟨_, by intro W hW; go_simp <;> with_reducible rfl, ?_⟩
              try simp only [Act.put, pA_, pB_, pC_]
              refine eU_ 2 rfl ⟨_, by intro W hW; go_simp <;> with_reducible rfl, ?_⟩
              try simp only [Act.put, pA_, pB_, pC_]
              refine eU_ 3 rfl ⟨_, by intro W hW; go_simp <;> with_reducible rfl, ?_⟩
              try simp only [Act.put, pA_, pB_, pC_]
              refine eU_ 4 rfl ⟨_, by intro W hW; go_simp <;> with_reducible rfl, ?_⟩
              try simp only [Act.put, pA_, pB_, pC_]
              refine eU_ 5 rfl ⟨_, by intro W hW; have hcW := cellY cs hW; go_simp <;> with_reducible rfl, ?_⟩
              try simp only [Act.put, pA_, pB_, pC_]
              refine eU_ 6 rfl ⟨_, by intro W hW; go_simp <;> with_reducible rfl, ?_⟩
              try simp only [Act.put, pA_, pB_, pC_]
              refine eU_ 7 rfl ⟨_, by intro W hW; go_simp <;> with_reducible rfl, ?_⟩
              try simp only [Act.put, pA_, pB_, pC_]
              refine eU_ 8 rfl ⟨_, by intro W hW; go_simp <;> with_reducible rfl, ?_⟩
              try simp only [Act.put, pA_, pB_, pC_]
              refine eU_ 9 rfl ⟨_, by intro W hW; go_simp <;> with_reducible rfl, ?_⟩
              try simp only [Act.put, pA_, pB_, pC_]
              refine eU_ 10 rfl ⟨_, by intro W hW; go_simp <;> with_reducible rfl, ?_⟩
              try simp only [Act.put, pA_, pB_, pC_]
              refine eU_ 11 rfl ⟨_, by intro W hW; have hcW := cellY cp hW; go_simp <;> with_reducible rfl, ?_⟩
              try simp only [Act.put, pA_, pB_, pC_]
              refine eU_ 12 rfl ⟨_, by intro W hW; go_simp <;> with_reducible rfl, ?_⟩
              try simp only [Act.put, pA_, pB_, pC_]
              refine eU_ 13 rfl ⟨_, by intro W hW; go_simp <;> with_reducible rfl, ?_⟩
              try simp only [Act.put, pA_, pB_, pC_]
              refine eL_ fun K hK => ?_
              go_simp
              refine hK.out _ _ ?_
              clear hK K
              try simp only [Act.put, pA_, pB_, pC_]
              obtain ⟨hrow8, hb8⟩ := HS.out _ HX.out
              have hrow9 := hrow8.drew
              have hb9 := hb8.drew
              go_wp2
              go_roundw
              case rel => exact ⟨K + 1, by omega, by go_num, hrow9, hb9⟩
              case measure => simp [intOf]; omega
            · have hKe : K = r := by omega
              rw [hKe] at hrow6
              have hd6 : decide ((K : Int) < (r : Int)) = false := decide_eq_false (by omega)
              have hKI : (r : Int) ≤ (K : Int) := by omega
              have hNs : Rd wr (.slice (some ⟨g5, 0, none⟩) 200 cap5) (xhP (bsP (abN r P b) 200) P I r) := by
                have h3 : NewI .u8 5 V (.slice (some ⟨g5, 0, none⟩) (bI (xhP (bsP (abN r P b) 200) P I r)).length cap5) (bI (xhP (bsP (abN r P b) 200) P I r)) wr := hrow6.new hg5 hb6
                have h4 := h3.toB.rd
                rw [bI_length, xhP_length] at h4
                exact h4
              have HI2 : Hid ((b + 1) * r = I + r) := by
                show (b + 1) * r = I + r
                rw [Nat.add_mul, Nat.one_mul, ← HI.out]
              have HE : Hid (rdsF (stF (xhP (bsP (abN r P b) 200) P I r)) 24 = abN r P (b + 1)) := by
                show _ = rdsF (stF (xhP (bsP (abN r P b) 200) P (b * r) r)) 24
                rw [← HI.out]
              have hbV := stepB hbT hb6
              clear hKe hrow6 hb6 hK hKlt
              go_wp2_with fail
              refine (state_any _ _ (xhP_length _ _ _ _) _ hNs).mono ?_
              rintro e w7 ⟨v7, rfl, hN7⟩
              have hb7 := stepB hbV hN7.2
              clear hNs hbV
              go_wp2_with fail
              refine (fast_any _ _ (stF_lt _) _ hN7.rd).mono ?_
              rintro e w8 ⟨v8, rfl, hN8⟩
              rw [HE.out] at hN8
              have hT8 : AtI 23 W2 (.slice (some ⟨w.heap.size, 0, none⟩) 25 25) v8 (abN r P (b + 1)) w8 := .inr (hN8.from hb7)
              clear hN7 hN8 hb7
              have wr2 : IntKind.i64.wrap ((I : Int) + (r : Int)) = (I : Int) + (r : Int) := IntWalk.i64_in _ (by omega)
              go_wp2
              go_roundw
              case rel => exact ⟨b + 1, I + r, by show _ = _; rw [HI2.out], by omega, by go_num, hT8⟩
              case measure => simp [intOf]; omega
        · have hbe : b = nb := by
            have e1 := HI.out
            have e2 := HB.out
            rcases Nat.lt_or_ge b nb with h4 | h4
            · have h5 := Nat.mul_le_mul_right r (show b + 1 ≤ nb from h4)
              rw [Nat.add_mul, Nat.one_mul] at h5
              omega
            · omega
          rw [hbe] at hT
          have hd5 : decide ((I : Int) < (L : Int)) = false := decide_eq_false (by omega)
          have hII : (L : Int) ≤ (I : Int) := by omega
          have hbT := stepB hb0 hT.b
          have hR := hT.rd
          rw [HPP.out, HNB.out] at hR
          clear hT hbe hIL
          go_wp2
          go_ret
          exact ⟨_, rfl, hR, hbT⟩
end Go.Proofs.YtfiefohdceokdaaDoor

/- What the document's own Absorb answers at every rate: a contract of the reference of layer 3, fourth part. -/
namespace Go.Proofs.YtfiefohdceokdaaDoor
open Go.ChangeShapes Go.WideShapes Go.ChangeAt Go.RowKit
set_option linter.unusedSimpArgs false
set_option linter.unusedVariables false

theorem absorbR_any (R S : Int) (s : UInt8) (hS : S = (s.toNat : Int)) (vb : Value) (l : List UInt8) (hl : l.length ≤ 1000000) (w : World) (hr : Rd w vb l) :
    Calls Tryd.prog 29 #[.int .i64 R, .int .u8 S, vb] w fun e w' => ∃ v, e = .returned v ∧ RdI .u64 w' v (stL (abF R s l)) ∧ Below w.heap.size w w' := by
  subst hS
  by_cases h : 1 ≤ R ∧ R ≤ 200
  · obtain ⟨r, rfl⟩ : ∃ r : Nat, R = r := ⟨R.toNat, by omega⟩
    have e : abF (r : Int) s l = abN r (padL r s l) (blN r l) := by unfold abF; rw [if_pos h, Int.toNat_natCast]
    rw [e]
    exact absorb_in r (by omega) (by omega) s vb l hl w hr
  · have e : abF R s l = fun _ => 0 := by unfold abF; rw [if_neg h]
    rw [e]
    exact absorb_out R _ (by omega) vb w
end Go.Proofs.YtfiefohdceokdaaDoor

/- What the document's own Sum256 answers: a contract of the reference of layer 3. -/
namespace Go.Proofs.YtfiefohdceokdaaDoor
open Go.ChangeShapes Go.WideShapes Go.ChangeAt Go.RowKit
set_option linter.unusedSimpArgs false
set_option linter.unusedVariables false

set_option maxHeartbeats 400000 in
theorem sum256R_any (vb : Value) (l : List UInt8) (hl : l.length ≤ 1000000) (w : World) (hr : Rd w vb l) :
    Calls Tryd.prog 25 #[vb] w fun e w' => ∃ v, e = .returned v ∧ Rd w' v (otL (abF 136 6 l) 136 32) ∧ Below w.heap.size w w' := by
  go_enter Tryd.func25, Tryd.ntmps25
  go_wp2_with fail
  refine (absorbR_any 136 6 6 rfl _ l hl _ hr).mono ?_
  rintro e w2 ⟨v2, rfl, hR2, hB2⟩
  go_wp2_with fail
  refine (out_any _ _ (abF_lt 136 6 l) 136 32 (by omega) (by omega) (by omega) _ hR2).mono ?_
  rintro e w3 ⟨v3, rfl, hR3, hB3⟩
  have hb := stepB hB2 hB3
  clear hR2 hB2 hB3
  go_wp2
  go_ret
  exact ⟨_, rfl, hR3, hb⟩
end Go.Proofs.YtfiefohdceokdaaDoor
