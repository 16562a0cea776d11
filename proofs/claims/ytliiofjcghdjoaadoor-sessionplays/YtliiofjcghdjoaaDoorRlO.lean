/- Rules that come in: what a law's argument of this kind is. -/
import Derived.Test.YtliiofjcghdjoaaDoorSmt
import Derived.Test.YtliiofjcghdjoaaDoorBase
import Derived.Test.YtliiofjcghdjoaaDoorChecked
import Derived.WalkKit
import Derived.Deep.Slices
import Derived.Deep.Strs
import Derived.OpenShut
import Derived.ChangeSlices
import Derived.ChangeSame
namespace Go.Proofs.YtliiofjcghdjoaaDoor
open Go.ChangeShapes Go.WideShapes Go.ChangeAt Go.RowKit
set_option linter.unusedSimpArgs false
set_option linter.unusedVariables false

theorem array7 {α : Type} {cs : Array α} (h : cs.size = 7) : ∃ c0 c1 c2 c3 c4 c5 c6, cs = #[c0, c1, c2, c3, c4, c5, c6] := by
  obtain ⟨l⟩ := cs
  match l, h with
  | [c0, c1, c2, c3, c4, c5, c6], _ => exact ⟨c0, c1, c2, c3, c4, c5, c6, rfl⟩
theorem i64_in22 {a : Int} (h : (Lit.int .i64 a).wf = true) : -9223372036854775808 ≤ a ∧ a ≤ 9223372036854775807 := by
  simp [Lit.wf, IntKind.min, IntKind.max, IntKind.bits, IntKind.signed] at h
  omega
theorem u64_in22 {a : Int} (h : (Lit.int .u64 a).wf = true) : 0 ≤ a ∧ a < 18446744073709551616 := by
  simp [Lit.wf, IntKind.min, IntKind.max, IntKind.bits, IntKind.signed] at h
  omega

set_option maxRecDepth 100000 in
set_option maxHeartbeats 1000000 in
theorem rl_open {H : Type} {enc : TypeId × Value → H} {W : World} {r : Reach} {b0 base : Nat} {spare : Nat → Bool} {held : Bool} {v : Value} {d : DataW H} {pl : List MemPlace} (hv : Value.okWide Tryd.prog W r b0 24 v) (h : DataW.Trod enc Tryd.prog W base spare held 24 v d pl) :
    ∃ q : Rl, v = .agg (rlC q).toArray ∧ RlW q := by
  obtain ⟨cs, rfl, hsz⟩ := okWide_struct Tryd.underlying24 hv
  have k0 : Tryd.prog.cellsOf 24 = 7 := by kernel_rfl
  rw [k0] at hsz
  obtain ⟨c0, c1, c2, c3, c4, c5, c6, rfl⟩ := array7 hsz
  obtain ⟨fuel, hf⟩ := h
  obtain ⟨xs, n, -, -, hl, hlen, hx⟩ := DataW.trod_struct Tryd.underlying24 hf
  have k1 : Tryd.prog.cellsOf 3 = 1 := by kernel_rfl
  have k3 : Tryd.prog.cellsOf 22 = 1 := by kernel_rfl
  match xs, hlen, hx with
  | [y0, y1, y2, y3, y4, y5, y6], _, hx =>
    have h0 : DataW.trod enc Tryd.prog W base spare held n 22 [c0] = some y0 := by simpa [Value.cells, k3] using hx 0 _ rfl
    have h1 : DataW.trod enc Tryd.prog W base spare held n 22 [c1] = some y1 := by simpa [Value.cells, k3] using hx 1 _ rfl
    have h2 : DataW.trod enc Tryd.prog W base spare held n 3 [c2] = some y2 := by simpa [Value.cells, k1] using hx 2 _ rfl
    have h3 : DataW.trod enc Tryd.prog W base spare held n 22 [c3] = some y3 := by simpa [Value.cells, k3] using hx 3 _ rfl
    have h4 : DataW.trod enc Tryd.prog W base spare held n 22 [c4] = some y4 := by simpa [Value.cells, k3] using hx 4 _ rfl
    have h5 : DataW.trod enc Tryd.prog W base spare held n 22 [c5] = some y5 := by simpa [Value.cells, k3] using hx 5 _ rfl
    have h6 : DataW.trod enc Tryd.prog W base spare held n 22 [c6] = some y6 := by simpa [Value.cells, k3] using hx 6 _ rfl
    clear hx hf hv hsz hl
    obtain ⟨z0, e0, -, w0⟩ := DataW.trod_int Tryd.underlying22 h0
    obtain ⟨z1, e1, -, w1⟩ := DataW.trod_int Tryd.underlying22 h1
    obtain ⟨z2, e2, -, w2⟩ := DataW.trod_int Tryd.underlying3 h2
    obtain ⟨z3, e3, -, w3⟩ := DataW.trod_int Tryd.underlying22 h3
    obtain ⟨z4, e4, -, w4⟩ := DataW.trod_int Tryd.underlying22 h4
    obtain ⟨z5, e5, -, w5⟩ := DataW.trod_int Tryd.underlying22 h5
    obtain ⟨z6, e6, -, w6⟩ := DataW.trod_int Tryd.underlying22 h6
    simp at e0 e1 e2 e3 e4 e5 e6
    subst e0 e1 e2 e3 e4 e5 e6
    have g0 := u64_in22 w0
    have g1 := u64_in22 w1
    have g2 := i64_in22 w2
    have g3 := u64_in22 w3
    have g4 := u64_in22 w4
    have g5 := u64_in22 w5
    have g6 := u64_in22 w6
    refine ⟨⟨z0.toNat, z1.toNat, z2, z3.toNat, z4.toNat, z5.toNat, z6.toNat⟩, ?_, ⟨?_, ?_, g2, ?_, ?_, ?_, ?_⟩⟩
    · unfold rlC
      rw [show ((z0.toNat : Nat) : Int) = z0 by omega, show ((z1.toNat : Nat) : Int) = z1 by omega, show ((z3.toNat : Nat) : Int) = z3 by omega, show ((z4.toNat : Nat) : Int) = z4 by omega, show ((z5.toNat : Nat) : Int) = z5 by omega, show ((z6.toNat : Nat) : Int) = z6 by omega]
    all_goals
      first
      | (show z0.toNat < _; omega)
      | (show z1.toNat < _; omega)
      | (show z3.toNat < _; omega)
      | (show z4.toNat < _; omega)
      | (show z5.toNat < _; omega)
      | (show z6.toNat < _; omega)
end Go.Proofs.YtliiofjcghdjoaaDoor
