/- What the functions of package words answer, for whatever reads as bytes: contracts, whatever the memory. -/
import Derived.Test.YthajkimmnceoiaaDoorRows
import Derived.Test.YthajkimmnceoiaaDoorLib
import Derived.Deep.QuietTactic
import Derived.BigQuiet
import Derived.WalkSpells
import Derived.RegionTactic
import Derived.BigRegion
namespace Go.Proofs.YthajkimmnceoiaaDoor
set_option linter.unusedSimpArgs false
set_option linter.unusedVariables false
open Go.ChangeShapes Go.WideShapes Go.ChangeAt Go.RowKit

theorem ret_int {k : IntKind} {a b : Int} (h : a = b) : Ending.returned (.int k a) = .returned (.int k b) := by rw [h]

theorem val_int {k : IntKind} {a b : Int} (h : a = b) : Value.int k a = .int k b := by rw [h]

theorem load_any (v : Value) (l : List UInt8) (w : World) (hr : Rd w v l) :
    Calls Tryd.prog 30 #[v] w fun e w' => e = .returned (.int .u64 ((leN (l.take 8) : Nat) : Int)) ∧ w' = w := by
  obtain ⟨a, cap, rfl, h2, h3, h4, h5⟩ := hr
  unfold maxLen at h3
  go_enter Tryd.func30, Tryd.ntmps30
  go_wp2
  all_goals
    go_loop [3, 8] (fun x i => ∃ k : Nat, k ≤ l.length ∧ k ≤ 8 ∧ i = .int .i64 k ∧ x = .int .u64 ((leN (l.take k) : Nat) : Int)) (fun _ i => 8 - (intOf i).toNat)
    case atStart => exact ⟨0, Nat.zero_le _, by omega, rfl, rfl⟩
    case round =>
      obtain ⟨k, hk, hk8, rfl, rfl⟩ := hrel
      by_cases hlt : k < l.length ∧ k < 8
      · obtain ⟨g1, g2⟩ := hlt
        rcases h5 with rfl | ⟨b, off, rfl, hc⟩
        · simp at g1
        have hck := hc k g1
        have hst := load_step l k g1 g2
        have HS : Hid _ := hst
        clear hst hc h4
        go_wp2
        go_round
        case rel => exact ⟨k + 1, by omega, by omega, by go_num, val_int (by simpa [g1] using HS.out)⟩
        case measure => simp [intOf]; omega
      · go_wp2
        go_ret
        refine ⟨ret_int ?_, rfl⟩
        have : k = 8 ∨ k = l.length := by omega
        rcases this with rfl | rfl
        · rfl
        · rw [List.take_of_length_le (Nat.le_refl _), List.take_of_length_le hk8]

theorem info5 : (Tryd.prog.info? 5).map (fun i => (i.zero, i.size, i.bytes)) = some (some (.int .u8 0), 1, 1) := by kernel_rfl

theorem below_drewN {B : Nat} {w wr : World} (h : Below B w wr) : ∀ n, Below B w (wr.drewN n)
  | 0 => h
  | n + 1 => (below_drewN h n).drew

theorem sel0 (x y : UInt8) : x ^^^ (0 &&& (x ^^^ y)) = x := by simp

theorem sel1 (x y : UInt8) : x ^^^ (255 &&& (x ^^^ y)) = y := by
  have h : (255 : UInt8) &&& (x ^^^ y) = x ^^^ y := by
    rw [show (255 : UInt8) = -1 from rfl]; simp
  rw [h, ← UInt8.xor_assoc]; simp

theorem conv_any {w : World} {v : Value} {l : List UInt8} (h : Rd w v l) : (convert 22 9 v).run Tryd.prog w = .ok (.string ⟨l.toArray⟩) w :=
  h.conv Tryd.underlying22 Tryd.underlying5 Tryd.underlying9

end Go.Proofs.YthajkimmnceoiaaDoor
