/- What package zq's powers of 17 by bits turned round answer: contracts, fourth part. -/
import Derived.Test.YtbladcgdbhogcabDoorZ10b
import Derived.Test.YtbladcgdbhogcabDoorZ10c
import Derived.Below
namespace Go.Proofs.YtbladcgdbhogcabDoor
open Go.ChangeShapes Go.WideShapes Go.ChangeAt Go.RowKit
set_option linter.unusedSimpArgs false
set_option linter.unusedVariables false

/-- 17 to the powers of 1, 2, 4 .. 64. -/
def p17L : List Nat := [17, 289, 296, 1062, 2642, 2580, 1729]
/-- The table lies where the program laid it. -/
def PwT (w : World) : Prop := ∀ i, i < 7 → w.cell? ⟨0, i, none⟩ = some (.int .i64 ((p17L.getD i 0 : Nat) : Int))
theorem PwT.kept {w w' : World} (h : PwT w) (hb : Below w.heap.size w w') : PwT w' := fun i hi => by
  rw [hb.cell (p := ⟨0, i, none⟩) (World.block_lt_of_cell? w _ (h i hi))]
  exact h i hi
theorem p17_lt : ∀ i, i < 7 → p17L.getD i 0 < 3329 := by decide
/-- The product after so many bits. -/
def zP (m : Nat) : Nat → Nat
  | 0 => 1
  | j + 1 => if m / 2 ^ j % 2 = 1 then zP m j * p17L.getD (6 - j) 0 % 3329 else zP m j
theorem zP_all : allB (fun m => zP m 7 == 17 ^ tnJ m 7 % 3329) 128 = true := by decide +kernel
theorem zP_seven (m : Nat) (h : m < 128) : zP m 7 = 17 ^ tnJ m 7 % 3329 := by
  have := allB_at zP_all m h
  simpa using this
theorem zP_lt (m : Nat) : ∀ j, zP m j < 3329
  | 0 => by simp [zP]
  | j + 1 => by
    have := zP_lt m j
    simp only [zP]
    split
    · exact Nat.mod_lt _ (by decide)
    · exact this
theorem bit_of (i : Int) (j : Nat) (h : j < 7) : i / 2 ^ j % 2 = ((twZ 7 i / 2 ^ j % 2 : Nat) : Int) := by
  unfold twZ
  match j, h with
  | 0, _ => omega
  | 1, _ => omega
  | 2, _ => omega
  | 3, _ => omega
  | 4, _ => omega
  | 5, _ => omega
  | 6, _ => omega
theorem and_bit (y : Int) (h : In64 y) : bits .and .i64 y 1 = y % 2 := by
  have h1 := and_low 1 (by decide) y h
  rw [show ((twZ 1 y : Nat) : Int) = y % 2 by unfold twZ; omega] at h1
  exact h1
theorem div_in (i : Int) (j : Nat) (h : j < 7) (hi : In64 i) : In64 (i / 2 ^ j) := by
  match j, h with
  | 0, _ => constructor <;> omega
  | 1, _ => constructor <;> omega
  | 2, _ => constructor <;> omega
  | 3, _ => constructor <;> omega
  | 4, _ => constructor <;> omega
  | 5, _ => constructor <;> omega
  | 6, _ => constructor <;> omega

set_option maxRecDepth 100000 in
set_option maxHeartbeats 1000000 in
theorem zzeta_any (i : Int) (hi : In64 i) (w : World) (hT : PwT w) :
    Calls Tryd.prog 19 #[.int .i64 i] w fun e w' => e = .returned (.int .i64 ((17 ^ tnJ (twZ 7 i) 7 % 3329 : Nat) : Int)) ∧ w' = w := by
  obtain ⟨Z, hZ⟩ : ∃ Z : Nat, Z = 17 ^ tnJ (twZ 7 i) 7 % 3329 := ⟨_, rfl⟩
  rw [← hZ]
  have HZ : Hid (Z = zP (twZ 7 i) 7) := by
    show _ = _
    rw [hZ, zP_seven _ (twZ_lt 7 i)]
  have HT : Hid _ := hT
  have HI : Hid _ := hi
  clear hZ hT hi
  go_enter Tryd.func19, Tryd.ntmps19
  go_wp2_with fail
  go_loop [3, 5] (fun ov jv => ∃ j o : Nat, j ≤ 7 ∧ ov = .int .i64 (o : Int) ∧ Hid (o = zP (twZ 7 i) j) ∧ o < 3329 ∧ jv = .int .i64 (j : Int)) (fun _ jv => 7 - (intOf jv).toNat)
  case atStart => exact ⟨0, 1, by omega, rfl, rfl, by omega, rfl⟩
  case round =>
    obtain ⟨j, o, hj, rfl, HO, ho, rfl⟩ := hrel
    by_cases hl : j < 7
    · have hd : decide ((j : Int) < 7) = true := decide_eq_true (by omega)
      have hjI : (j : Int) < 7 := by omega
      have hj0 : ¬ (j : Int) < 0 := by omega
      have b1 := bit_of i j hl
      have b2 := and_bit (i / 2 ^ j) (div_in i j hl HI.out)
      rw [b1] at b2
      have hbl : twZ 7 i / 2 ^ j % 2 < 2 := Nat.mod_lt _ (by decide)
      by_cases hb : twZ 7 i / 2 ^ j % 2 = 1
      · have HN : Hid (zP (twZ 7 i) (j + 1) = o * p17L.getD (6 - j) 0 % 3329) := by
          show _ = _
          rw [HO.out, zP, if_pos hb]
        rw [hb] at b2
        obtain ⟨k, hk⟩ : ∃ k : Nat, k = 6 - j := ⟨_, rfl⟩
        have hc := HT.out k (by omega)
        have hy := p17_lt k (by omega)
        have ek : 6 - (j : Int) = (k : Int) := by omega
        have hk7 : k < 7 := by omega
        have hkI : (k : Int) < 7 := by omega
        rw [← hk] at HN
        generalize p17L.getD k 0 = y at hc hy HN
        have HM : Hid (rsZ ((o : Int) * (y : Int)) = zP (twZ 7 i) (j + 1)) := by
          show _ = _
          rw [HN.out, ← Int.natCast_mul, rsZ_nat]
        clear HN hk hb b1 hbl
        go_wp2_with fail
        refine (zmul_any (o : Int) (y : Int) ⟨by omega, by omega⟩ ⟨by omega, by omega⟩ _).mono ?_
        rintro e w1 ⟨rfl, rfl⟩
        have hb1 := rsZ_lt ((o : Int) * (y : Int))
        generalize rsZ ((o : Int) * (y : Int)) = p at HM hb1
        clear hc
        go_wp2
        go_round
        case rel => exact ⟨j + 1, p, by omega, rfl, HM, hb1, by go_num⟩
        case measure => simp [intOf] <;> omega
      · have hb0 : twZ 7 i / 2 ^ j % 2 = 0 := by omega
        have HN : Hid (o = zP (twZ 7 i) (j + 1)) := by
          show _ = _
          rw [HO.out, zP, if_neg hb]
        rw [hb0] at b2
        clear hb hb0 b1 hbl
        go_wp2
        go_round
        case rel => exact ⟨j + 1, o, by omega, rfl, HN, ho, by go_num⟩
        case measure => simp [intOf] <;> omega
    · have hje : j = 7 := by omega
      have hd : decide ((j : Int) < 7) = false := decide_eq_false (by omega)
      have hjI : (7 : Int) ≤ (j : Int) := by omega
      have HN2 : Hid (o = Z) := by show _ = _; rw [HZ.out, HO.out, hje]
      clear hje HO
      go_wp2
      go_ret
      exact ⟨retZ (by rw [HN2.out]), rfl⟩
end Go.Proofs.YtbladcgdbhogcabDoor
