/- What the document's own joining answers: a contract of the reference of layer 1. -/
import Derived.Test.YtonnngndknoljaaRef01
namespace Go.Proofs.Ytonnngndknoljaa
open Go.ChangeShapes Go.WideShapes Go.ChangeAt Go.RowKit
set_option linter.unusedSimpArgs false
set_option linter.unusedVariables false

theorem joinR_any (va vb : Value) (a b : List UInt8) (hl : a.length + b.length ≤ 140737488355328) (w : World) (ha : Rd w va a) (hb : Rd w vb b) :
    Calls Try.prog 20 #[va, vb] w fun e w' => ∃ r, e = .returned r ∧ New 5 w r (a ++ b) w' := by
  have HL : Hid (a.length + b.length ≤ 140737488355328) := hl
  have HL0 : Hid (([] : List UInt8).length + a.length ≤ 140737488355328) := by show _ ≤ _; simp; omega
  have hN0 : New 5 w (.slice none 0 0) [] w := New.start w
  clear hl
  go_enter Try.func20, Try.ntmps20
  go_wp2_with (at_builtin; go_must (refine wpList_append_new (w := w) rfl _ _ 23 rfl 5 Try.underlying23 infoU8 _ _ rfl hN0 _ _ rfl ha HL0.out ?_))
  intro v1 w1 hN1 _
  replace hb := hb.kept hN1.2
  go_wp2_with (at_builtin; go_must (refine wpList_append_new (w := w) rfl _ _ 23 rfl 5 Try.underlying23 infoU8 _ _ rfl hN1 _ _ rfl hb HL.out ?_))
  intro v2 w2 hN2 _
  go_wp2
  go_ret
  exact ⟨_, rfl, hN2⟩
end Go.Proofs.Ytonnngndknoljaa
