/- A pair taken apart and put together; a polynomial crossed block by block: contracts of package ntt, fourth part. -/
import Derived.Test.YtbladcgdbhogcabDoorN11b
namespace Go.Proofs.YtbladcgdbhogcabDoor
open Go.ChangeShapes Go.WideShapes Go.ChangeAt Go.RowKit
set_option linter.unusedSimpArgs false
set_option linter.unusedVariables false

/-- Two numbers as a value. -/
abbrev prV (a b : FZ) : Value := .tuple #[.int .i64 ((a.val : Nat) : Int), .int .i64 ((b.val : Nat) : Int)]
set_option maxHeartbeats 1000000 in
theorem split_any (z a b : FZ) (w : World) :
    Calls Tryd.prog 20 #[.int .i64 ((z.val : Nat) : Int), .int .i64 ((a.val : Nat) : Int), .int .i64 ((b.val : Nat) : Int)] w fun e w' => e = .returned (prV (sp1 z a b) (sp2 z a b)) ∧ Below w.heap.size w w' := by
  have H1 : Hid (ni ((z.val : Nat) : Int) * ni ((b.val : Nat) : Int) = z * b) := by show _ = _; rw [ni_fz, ni_fz]
  have H2 : Hid (ni ((a.val : Nat) : Int) + ni (((z * b).val : Nat) : Int) = sp1 z a b) := by show _ = _; rw [ni_fz, ni_fz]; rfl
  have H3 : Hid (ni ((a.val : Nat) : Int) - ni (((z * b).val : Nat) : Int) = sp2 z a b) := by show _ = _; rw [ni_fz, ni_fz]; rfl
  go_enter Tryd.func20, Tryd.ntmps20
  go_wp2_with fail
  refine (zmulF _ _ (in64_fz z) (in64_fz b) _).mono ?_
  rintro e w1 ⟨rfl, rfl⟩
  rw [H1.out]
  go_wp2_with fail
  refine (zaddF _ _ (in64_fz a) (in64_fz (z * b)) _).mono ?_
  rintro e w1 ⟨rfl, rfl⟩
  rw [H2.out]
  go_wp2_with fail
  refine (zsubF _ _ (in64_fz a) (in64_fz (z * b)) _).mono ?_
  rintro e w1 ⟨rfl, rfl⟩
  rw [H3.out]
  go_wp2
  go_ret2
  exact ⟨rfl, Below.refl _ _⟩
set_option maxHeartbeats 1000000 in
theorem join_two (z a b : FZ) (w : World) :
    Calls Tryd.prog 24 #[.int .i64 ((z.val : Nat) : Int), .int .i64 ((a.val : Nat) : Int), .int .i64 ((b.val : Nat) : Int)] w fun e w' => e = .returned (prV (jn1 z a b) (jn2 z a b)) ∧ Below w.heap.size w w' := by
  have H1 : Hid (ni ((a.val : Nat) : Int) + ni ((b.val : Nat) : Int) = jn1 z a b) := by show _ = _; rw [ni_fz, ni_fz]; rfl
  have H2 : Hid (ni ((b.val : Nat) : Int) - ni ((a.val : Nat) : Int) = b - a) := by show _ = _; rw [ni_fz, ni_fz]
  have H3 : Hid (ni ((z.val : Nat) : Int) * ni (((b - a).val : Nat) : Int) = jn2 z a b) := by show _ = _; rw [ni_fz, ni_fz]; rfl
  go_enter Tryd.func24, Tryd.ntmps24
  go_wp2_with fail
  refine (zaddF _ _ (in64_fz a) (in64_fz b) _).mono ?_
  rintro e w1 ⟨rfl, rfl⟩
  rw [H1.out]
  go_wp2_with fail
  refine (zsubF _ _ (in64_fz b) (in64_fz a) _).mono ?_
  rintro e w1 ⟨rfl, rfl⟩
  rw [H2.out]
  go_wp2_with fail
  refine (zmulF _ _ (in64_fz z) (in64_fz (b - a)) _).mono ?_
  rintro e w1 ⟨rfl, rfl⟩
  rw [H3.out]
  go_wp2
  go_ret2
  exact ⟨rfl, Below.refl _ _⟩
end Go.Proofs.YtbladcgdbhogcabDoor
