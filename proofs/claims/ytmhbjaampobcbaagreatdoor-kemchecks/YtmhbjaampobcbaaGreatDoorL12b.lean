/- Small polynomials of bytes, and polynomials unpacked: contracts of package sample, second part. -/
import Derived.Test.YtmhbjaampobcbaaGreatDoorL12a
import Derived.Test.YtmhbjaampobcbaaGreatDoorRef12b
import Derived.Test.YtmhbjaampobcbaaGreatDoorZz
import Derived.Test.YtmhbjaampobcbaaGreatDoorBase
namespace Go.Proofs.YtmhbjaampobcbaaGreatDoor
open Go.ChangeShapes Go.WideShapes Go.ChangeAt Go.RowKit
set_option linter.unusedSimpArgs false
set_option linter.unusedVariables false

theorem poInfoS (F : Nat → Int) : (Tryz.prog.info? 58).map (·.size) = some (gI F).length := by rw [gI_length]; kernel_rfl
theorem alloc_poS (w : World) : (Instr.alloc 58 true (.tuple #[])).run Tryz.prog w = .ok (.pointer (some ⟨w.heap.size, 0, none⟩)) (w.alloc (.cells ((gI fun _ => 0).map (Value.int .i64)).toArray 58)) := by kernel_rfl
theorem put_placeS {f : Nat → FZ} {i : Nat} {G : Nat → Int} (h : ∀ k, k < i → G k = fzF f k) : ∀ k, k < i + 1 → (if k = i then (((f i).val : Nat) : Int) else G k) = fzF f k := by
 intro k hk
 by_cases e : k = i
 ·rw [if_pos e, e]
  rfl
 ·rw [if_neg e, h k (by omega)]

theorem isEta_in (d : Int) (h1 : 1 ≤ d) (h2 : d ≤ 3) (w : World) :
  Calls Tryz.prog 150 #[.int .i64 d] w fun e w' => e = .returned (.bool true) ∧ w' = w := by
 have d1 : decide (1 ≤ d) = true := decide_eq_true h1
 have d2 : decide (d ≤ 3) = true := decide_eq_true h2
 go_enter Tryz.func150, Tryz.ntmps150
 go_wp2
 go_ret
 exact ⟨rfl, rfl⟩

theorem packs_in (d : Int) (h1 : 1 ≤ d) (h2 : d ≤ 12) (w : World) :
  Calls Tryz.prog 104 #[.int .i64 d] w fun e w' => e = .returned (.bool true) ∧ w' = w := by
 have d1 : decide (1 ≤ d) = true := decide_eq_true h1
 have d2 : decide (d ≤ 12) = true := decide_eq_true h2
 go_enter Tryz.func104, Tryz.ntmps104
 go_wp2
 go_ret
 exact ⟨rfl, rfl⟩

theorem size_facts (K c d : Nat) (h : K = 8 * c) (hK : K ≤ 1000) (hd : d ≤ 12) : ∃ a s : Nat, s = c * d ∧ IntKind.i64.wrap ((K : Int) * (d : Int)) = (a : Int) ∧ (K : Int) * (d : Int) = (a : Int) ∧ ((a : Nat) : Int).tdiv 8 = (s : Int) ∧ (a : Int) / 8 = (s : Int) ∧ IntKind.i64.wrap (s : Int) = (s : Int) := by
 have e : K * d = 8 * (c * d) := by rw [h, Nat.mul_assoc]
 have h2 : c * d ≤ 125 * 12 := Nat.mul_le_mul (by omega) hd
 have e2 : (K : Int) * (d : Int) = ((8 * (c * d) : Nat) : Int) := by rw [← e, Int.natCast_mul]
 refine ⟨8 * (c * d), c * d, rfl, ?_, e2, ?_, ?_, IntWalk.i64_in _ (by omega)⟩
 ·rw [e2, IntWalk.i64_in _ (by omega)]
 ·rw [Int.tdiv_eq_ediv_of_nonneg (by omega)]
  generalize c * d = z
  omega
 ·generalize c * d = z
  omega
theorem noiseSize_any (e : Nat) (E : Int) (hE : E = (e : Int)) (h : e ≤ 12) (w : World) :
  Calls Tryz.prog 152 #[.int .i64 E] w fun r w' => r = .returned (.int .i64 ((64 * e : Nat) : Int)) ∧ w' = w := by
 subst hE
 obtain ⟨a, s, hs, f1, f2, f3, f4, f5⟩ := size_facts 512 64 e rfl (by omega) h
 have f1 : IntKind.i64.wrap (512 * (e : Int)) = (a : Int) := f1
 have f2 : 512 * (e : Int) = (a : Int) := f2
 have HS : Hid _ := hs
 clear hs
 go_enter Tryz.func152, Tryz.ntmps152
 go_wp2
 go_ret
 exact ⟨retZ (by rw [HS.out]), rfl⟩
theorem packSize_any (e : Nat) (E : Int) (hE : E = (e : Int)) (h : e ≤ 12) (w : World) :
  Calls Tryz.prog 105 #[.int .i64 E] w fun r w' => r = .returned (.int .i64 ((32 * e : Nat) : Int)) ∧ w' = w := by
 subst hE
 obtain ⟨a, s, hs, f1, f2, f3, f4, f5⟩ := size_facts 256 32 e rfl (by omega) h
 have f1 : IntKind.i64.wrap (256 * (e : Int)) = (a : Int) := f1
 have f2 : 256 * (e : Int) = (a : Int) := f2
 have HS : Hid _ := hs
 clear hs
 go_enter Tryz.func105, Tryz.ntmps105
 go_wp2
 go_ret
 exact ⟨retZ (by rw [HS.out]), rfl⟩

theorem noise2_facts (e i : Nat) (h1 : 1 ≤ e) (h3 : e ≤ 3) (hi : i < 256) : ∃ a2 ae ae2 : Nat, ae = 2 * i * e ∧ ae2 = 2 * i * e + e ∧ ae2 + e ≤ 512 * e ∧
  IntKind.i64.wrap (2 * (i : Int)) = (a2 : Int) ∧ IntKind.i64.wrap ((a2 : Int) * (e : Int)) = (ae : Int) ∧ IntKind.i64.wrap ((ae : Int) + (e : Int)) = (ae2 : Int) := by
 have he : e = 1 ∨ e = 2 ∨ e = 3 := by omega
 refine ⟨2 * i, 2 * i * e, 2 * i * e + e, rfl, rfl, ?_, ?_, ?_, ?_⟩
 all_goals rcases he with rfl | rfl | rfl
 all_goals first | omega | (rw [IntWalk.i64_in _ (by omega)]; omega)
end Go.Proofs.YtmhbjaampobcbaaGreatDoor
