/- What the document's own bytes of a state, and state of bytes, are: contracts of the reference of layer 3, first part. -/
import Derived.Test.YtlcnepnappfjeaaDoorRef01
import Derived.Test.YtlcnepnappfjeaaDoorBase
import Derived.Test.YtlcnepnappfjeaaDoorKec
import Derived.Test.YtlcnepnappfjeaaDoorRef02l
namespace Go.Proofs.YtlcnepnappfjeaaDoor
open Go.ChangeShapes Go.WideShapes Go.ChangeAt Go.RowKit
set_option linter.unusedSimpArgs false
set_option linter.unusedVariables false

set_option maxHeartbeats 1000000 in
theorem bytes_any (va : Value) (f : Nat → Nat) (hf : ∀ i, f i < 18446744073709551616) (w : World) (hr : RdI .u64 w va (stL f)) :
    Calls Tryd.prog 29 #[va] w fun e w' => ∃ v, e = .returned v ∧ New 5 w v (bsP f 200) w' := by
  have HF : Hid (∀ i, f i < 18446744073709551616) := hf
  obtain ⟨b, off, cap, rfl, hcap, hmax, hb, _⟩ := hr.cells (stL_ne f)
  rw [stL_length] at hcap
  have e25 := stL_length f
  rw [e25] at hr ⊢
  have HR : Hid (RdI .u64 w (.slice (some ⟨b, off, none⟩) 25 cap) (stL f)) := hr
  clear e25 hf hr
  go_enter Tryd.func29, Tryd.ntmps29
  go_wp2
  go_loopw [3, 4] (fun v i wr => ∃ j : Nat, j ≤ 25 ∧ i = .int .i64 j ∧ New 5 w v (bsP f (8 * j)) wr) (fun _ i _ => 25 - (intOf i).toNat)
  case atStart => exact ⟨0, by omega, rfl, New.start w⟩
  case round =>
    obtain ⟨j, hj, rfl, hN⟩ := hrel
    by_cases hlt : j < 25
    · have hd : decide ((j : Int) < 25) = true := decide_eq_true (by omega)
      have hjI : (j : Int) < 25 := by omega
      obtain ⟨b', off', cap', ev, _, hc, _⟩ := (HR.out.kept hN.2).cellAt (i := j) (by rw [stL_length]; exact hlt)
      simp only [Value.slice.injEq, Option.some.injEq, Addr.mk.injEq, and_true] at ev
      obtain ⟨⟨rfl, rfl⟩, -, rfl⟩ := ev
      rw [stL_get f j hlt] at hc
      have hq := HF.out j
      have HE : Hid _ := bsP_next f j
      generalize f j = q at hc hq HE
      go_wp2_with fail
      refine (refstore_k q hq 8 8 (by omega) (.inr (.inl ⟨by omega, by omega, by omega⟩)) _).mono ?_
      rintro e w2 ⟨v2, rfl, hN2⟩
      have hN3 := hN.kept hN2.2
      have hR2 := hN2.rd
      clear hN hN2 hc
      go_wp2_with (at_builtin; go_must (refine wpList_append_new (w := w) rfl _ _ 22 rfl 5 Tryd.underlying22 infoU8 _ _ rfl hN3 _ _ rfl hR2 (by simp [bsP_length]; omega) ?_))
      intro v' w3 hN4 _
      have hN5 : New 5 w v' (bsP f (8 * (j + 1))) w3 := by
        rw [← HE.out]
        exact hN4
      clear hN4
      go_wp2
      go_roundw
      case rel => exact ⟨j + 1, by omega, by go_num, hN5⟩
      case measure => simp [intOf]; omega
    · have hje : j = 25 := by omega
      subst hje
      go_wp2
      go_ret
      exact ⟨_, rfl, hN⟩

set_option maxHeartbeats 1000000 in
theorem state_any (va : Value) (l : List UInt8) (hl : l.length = 200) (w : World) (hr : Rd w va l) :
    Calls Tryd.prog 50 #[va] w fun e w' => ∃ v, e = .returned v ∧ NewI .u64 65 w v (stL (stF l)) w' := by
  obtain ⟨b, off, cap, rfl, hcap, _⟩ := hr.cellAt (i := 0) (by omega)
  rw [hl] at hr hcap ⊢
  have HR : Hid (Rd w (.slice (some ⟨b, off, none⟩) 200 cap) l) := hr
  clear hr
  go_enter Tryd.func50, Tryd.ntmps50
  go_wp2
  go_loopw [3, 4] (fun v i wr => ∃ j : Nat, j ≤ 25 ∧ i = .int .i64 j ∧ NewI .u64 65 w v (stP l j) wr) (fun _ i _ => 25 - (intOf i).toNat)
  case atStart => exact ⟨0, by omega, rfl, NewI.start w⟩
  case round =>
    obtain ⟨j, hj, rfl, hN⟩ := hrel
    by_cases hlt : j < 25
    · have hd : decide ((j : Int) < 25) = true := decide_eq_true (by omega)
      have hjI : (j : Int) < 25 := by omega
      have hR := (HR.out.kept hN.2).sub (8 * j) (8 * j + 8) (by omega) (by omega)
      rw [show 8 * j + 8 - 8 * j = 8 by omega] at hR
      have w8 : IntKind.i64.wrap (8 * (j : Int)) = 8 * (j : Int) := IntWalk.i64_in _ (by omega)
      have w9 : IntKind.i64.wrap (8 * (j : Int) + 8) = 8 * (j : Int) + 8 := IntWalk.i64_in _ (by omega)
      go_wp2_with fail
      refine (refload_any _ _ _ hR).mono ?_
      rintro e w2 ⟨rfl, rfl⟩
      have ex : leN (List.take 8 (List.take 8 (List.drop (8 * j) l))) = stF l j := by
        rw [List.take_take]
        rfl
      rw [ex]
      have HE : Hid _ := stP_next l j
      generalize stF l j = x at HE
      clear hR ex
      have hL : RdI .u64 (w2.alloc (.cells #[.int .u64 ((x : Nat) : Int)] 65)) (.slice (some ⟨w2.heap.size, 0, none⟩) 1 1) [((x : Nat) : Int)] := (NewI.lit (k := .u64) (w := w2) (e := 65) [((x : Nat) : Int)] rfl rfl rfl (by simp [maxLen])).rd
      go_wp2_with (at_builtin; go_must (refine wpList_append_newI (w := w) rfl _ _ 52 rfl 65 Tryd.underlying52 8 infoU64 _ _ rfl (hN.alloc _) _ _ rfl hL (by simp [stP_length]; omega) (by simp [stP_length]; omega) ?_))
      intro v' w3 hN4 _
      rw [HE.out] at hN4
      clear hN hL
      go_wp2
      go_roundw
      case rel => exact ⟨j + 1, by omega, by go_num, hN4⟩
      case measure => simp [intOf]; omega
    · have hje : j = 25 := by omega
      subst hje
      rw [stP_done] at hN
      go_wp2
      go_ret
      exact ⟨_, rfl, hN⟩
end Go.Proofs.YtlcnepnappfjeaaDoor
