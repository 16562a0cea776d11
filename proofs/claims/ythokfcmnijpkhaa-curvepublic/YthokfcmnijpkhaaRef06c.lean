/- What the document's own shared secret and public key are: contracts of the reference of layer 6. -/
import Derived.Test.YthokfcmnijpkhaaRef06b
namespace Go.Proofs.Ythokfcmnijpkhaa
open Go.ChangeShapes Go.WideShapes Go.ChangeAt Go.RowKit
set_option linter.unusedSimpArgs false
set_option linter.unusedVariables false

theorem sharedR_arg (vk vu : Value) (k u : List UInt8) (w : World) (hk : Rd w vk k) (hu : Rd w vu u) (h : ¬ (k.length = 32 ∧ u.length = 32)) :
    Calls Try.prog 13 #[vk, vu] w fun e w' => e = .returned (.tuple #[.slice none 0 0, .int .i64 1]) ∧ w' = w := by
  go_enter Try.func13, Try.ntmps13
  go_wp2_with fail
  refine (scalarR_arg _ _ k u _ hk hu h).mono ?_
  rintro e w1 ⟨rfl, rfl⟩
  go_wp2
  go_ret2
  exact ⟨rfl, rfl⟩

set_option maxRecDepth 100000 in
set_option maxHeartbeats 2000000 in
theorem sharedR_zero (vk vu : Value) (k u : List UInt8) (w : World) (hk : Rd w vk k) (hu : Rd w vu u) (hk32 : k.length = 32) (hu32 : u.length = 32) (hz : ∀ x ∈ enL (scN k u), x = 0) :
    Calls Try.prog 13 #[vk, vu] w fun e w' => e = .returned (.tuple #[.slice none 0 0, .int .i64 11]) ∧ Below w.heap.size w w' := by
  have HZ : Hid (∀ i, i < 32 → (enL (scN k u)).getD i 0 = 0) := fun i hi => by
    have hl : i < (enL (scN k u)).length := by rw [enL_length]; exact hi
    have := hz (enL (scN k u))[i] (List.getElem_mem hl)
    simpa [hl] using this
  have HL : Hid ((enL (scN k u)).length = 32) := enL_length _
  clear hz
  go_enter Try.func13, Try.ntmps13
  go_wp2_with fail
  refine (scalarR_any _ _ k u _ hk hu hk32 hu32).mono ?_
  rintro e w1 ⟨v1, rfl, hN⟩
  have hR := hN.rd
  have hb := hN.2
  generalize enL (scN k u) = L at hR HZ HL
  obtain ⟨a, c, rfl, hc, hm, -, -⟩ := id hR
  rw [HL.out] at hc
  unfold maxLen at hm
  clear hN hk hu hk32 hu32
  go_wp2
  go_loop [8] (fun iv => ∃ i : Nat, i ≤ 32 ∧ iv = .int .i64 (i : Int)) (fun iv => 32 - (intOf iv).toNat)
  case atStart => exact ⟨0, by omega, rfl⟩
  case round =>
    obtain ⟨i, hi, rfl⟩ := hrel
    by_cases hlt : i < 32
    · have hd : decide ((i : Int) < 32) = true := decide_eq_true (by omega)
      have hiI : (i : Int) < 32 := by omega
      obtain ⟨b, off, cc, ev, -, hcell, -⟩ := hR.cellAt (i := i) (by rw [HL.out]; exact hlt)
      simp only [Value.slice.injEq] at ev
      obtain ⟨rfl, -, rfl⟩ := ev
      rw [HZ.out i hlt] at hcell
      have hil : i < L.length := by rw [HL.out]; exact hlt
      have hilI : (i : Int) < (L.length : Int) := by omega
      go_wp2
      go_round
      case rel => exact ⟨i + 1, by omega, by go_num⟩
      case measure => simp [intOf] <;> omega
    · have hd : decide ((i : Int) < 32) = false := decide_eq_false (by omega)
      have hiI : (32 : Int) ≤ (i : Int) := by omega
      go_wp2
      go_ret2
      exact ⟨rfl, hb⟩

set_option maxRecDepth 100000 in
set_option maxHeartbeats 2000000 in
theorem sharedR_some (vk vu : Value) (k u : List UInt8) (w : World) (hk : Rd w vk k) (hu : Rd w vu u) (hk32 : k.length = 32) (hu32 : u.length = 32) (hz : ¬ ∀ x ∈ enL (scN k u), x = 0) :
    Calls Try.prog 13 #[vk, vu] w fun e w' => ∃ r, e = .returned (.tuple #[r, .int .i64 0]) ∧ New 5 w r (enL (scN k u)) w' := by
  have HL : Hid ((enL (scN k u)).length = 32) := enL_length _
  have HZ : Hid (∃ i, i < 32 ∧ (enL (scN k u)).getD i 0 ≠ 0) := by
    refine Classical.byContradiction fun hc => hz fun x hx => ?_
    obtain ⟨i, hi, rfl⟩ := List.getElem_of_mem hx
    refine Classical.byContradiction fun hne => hc ⟨i, by have := HL.out; omega, ?_⟩
    simpa [hi] using hne
  clear hz
  go_enter Try.func13, Try.ntmps13
  go_wp2_with fail
  refine (scalarR_any _ _ k u _ hk hu hk32 hu32).mono ?_
  rintro e w1 ⟨v1, rfl, hN⟩
  have hR := hN.rd
  obtain ⟨L, hL⟩ : ∃ L : List UInt8, L = enL (scN k u) := ⟨_, rfl⟩
  rw [← hL] at hR HZ HL hN
  have HLL : Hid _ := hL
  clear hL
  obtain ⟨a, c, rfl, hc, hm, -, -⟩ := id hR
  rw [HL.out] at hc
  unfold maxLen at hm
  have HN : Hid _ := hN
  clear hN hk hu hk32 hu32
  go_wp2
  go_loop [8] (fun iv => ∃ i : Nat, i ≤ 32 ∧ iv = .int .i64 (i : Int) ∧ Hid (∀ j, j < i → L.getD j 0 = 0)) (fun iv => 32 - (intOf iv).toNat)
  case atStart => exact ⟨0, by omega, rfl, fun j hj => by omega⟩
  case round =>
    obtain ⟨i, hi, rfl, HI⟩ := hrel
    by_cases hlt : i < 32
    · have hd : decide ((i : Int) < 32) = true := decide_eq_true (by omega)
      have hiI : (i : Int) < 32 := by omega
      obtain ⟨b, off, cc, ev, -, hcell, -⟩ := hR.cellAt (i := i) (by rw [HL.out]; exact hlt)
      simp only [Value.slice.injEq] at ev
      obtain ⟨rfl, -, rfl⟩ := ev
      have hil : i < L.length := by rw [HL.out]; exact hlt
      have hilI : (i : Int) < (L.length : Int) := by omega
      by_cases h0 : L.getD i 0 = 0
      · rw [h0] at hcell
        have HI2 : Hid (∀ j, j < i + 1 → L.getD j 0 = 0) := fun j hj => by
          by_cases hji : j = i
          · rw [hji]; exact h0
          · exact HI.out j (by omega)
        clear h0
        go_wp2
        go_round
        case rel => exact ⟨i + 1, by omega, by go_num, HI2⟩
        case measure => simp [intOf] <;> omega
      · have hne : ((((L.getD i 0).toNat : Nat) : Int) != 0) = true := by
          have hn := nat0_beq (L.getD i 0)
          rw [decide_eq_false h0] at hn
          simp only [bne, hn]
          rfl
        generalize L.getD i 0 = y at hcell hne
        clear h0
        go_wp2
        go_ret2
        exact ⟨.slice (some ⟨b, off, none⟩) L.length c, rfl, by rw [← HLL.out]; exact HN.out⟩
    · exfalso
      obtain ⟨j, hj, hne⟩ := HZ.out
      exact hne (HI.out j (by omega))

/-- Nine, in 32 bytes. -/
def nineL : List UInt8 := 9 :: List.replicate 31 0
theorem nineL_length : nineL.length = 32 := by decide
theorem nine_set : (List.replicate 32 (0 : UInt8)).set 0 9 = nineL := by decide

set_option maxRecDepth 100000 in
set_option maxHeartbeats 2000000 in
theorem publicR_any (vk : Value) (k : List UInt8) (w : World) (hk : Rd w vk k) :
    Calls Try.prog 15 #[vk] w fun e w' => (k.length = 32 → ∃ r, e = .returned (.tuple #[r, .int .i64 0]) ∧ New 5 w r (enL (scN k nineL)) w') ∧ (k.length ≠ 32 → e = .returned (.tuple #[.slice none 0 0, .int .i64 1]) ∧ Below w.heap.size w w') := by
  obtain ⟨ti, hti, hz0, hz1, hz2⟩ := info_parts infoU8b
  go_enter Try.func15, Try.ntmps15
  go_wp2_with (at_make; go_must (refine wpList_make_full _ rfl _ _ 22 rfl w.heap.size 5 ti _ 1 Try.underlying22 hti hz0 hz1 _ _ _ _ 32 rfl rfl rfl rfl (by rw [hz2]; omega) (by unfold maxLen; omega) (Nat.le_refl _) ?_))
  intro w1 hown hgr
  have hN1 := New.made hown hgr
  clear hown hgr
  obtain ⟨g, c, ev, -, hcell, hfree, hset⟩ := hN1.store (j := 0) (by simp)
  simp only [Value.slice.injEq, Option.some.injEq, Addr.mk.injEq, and_true, true_and, List.length_replicate] at ev
  obtain ⟨rfl, rfl⟩ := ev
  have hN2 := hset 9
  rw [nine_set] at hN2
  have HN : Hid (New 5 w (.slice (some ⟨w.heap.size, 0, none⟩) 32 32) nineL (w1.setCell ⟨w.heap.size, 0, none⟩ (.int .u8 9))) := hN2
  have hk2 := hk.kept hN2.2
  have HK2 : Hid (Rd (w1.setCell ⟨w.heap.size, 0, none⟩ (.int .u8 9)) vk k) := hk2
  clear hset hN2 hN1 hk hk2
  go_wp2_with fail
  by_cases hl : k.length = 32
  · refine (scalarR_any _ _ k nineL _ HK2.out HN.out.rd hl nineL_length).mono ?_
    rintro e w2 ⟨v2, rfl, hN3⟩
    go_wp2
    go_ret2
    exact ⟨fun _ => ⟨_, rfl, hN3.from HN.out.2⟩, fun h => absurd hl h⟩
  · refine (scalarR_arg _ _ k nineL _ HK2.out HN.out.rd (fun h => hl h.1)).mono ?_
    rintro e w2 ⟨rfl, rfl⟩
    go_wp2
    go_ret2
    exact ⟨fun h => absurd h hl, fun _ => ⟨rfl, HN.out.2⟩⟩
end Go.Proofs.Ythokfcmnijpkhaa
