/- What the law ChachaQuarters answers at every input: the walk. -/
import Derived.Test.YtlggnknblfclkaaDoorC07e
namespace Go.Proofs.YtlggnknblfclkaaDoor
open Go.ChangeShapes Go.WideShapes Go.ChangeAt Go.RowKit
set_option linter.unusedSimpArgs false
set_option linter.unusedVariables false

set_option maxRecDepth 100000 in
set_option maxHeartbeats 2000000 in
theorem quarters_walk (A B C D : Int) (hA : (Lit.int .u32 A).wf = true) (hB : (Lit.int .u32 B).wf = true) (hC : (Lit.int .u32 C).wf = true) (hD : (Lit.int .u32 D).wf = true) (w : World) (ht : PlT w) :
    Calls Tryd.prog 3 #[.int .u32 A, .int .u32 B, .int .u32 C, .int .u32 D] w fun e w' => e = .returned (.bool true) ∧ Below w.heap.size w w' := by
  obtain ⟨a, rfl, ha⟩ := nat_u32 hA
  obtain ⟨b, rfl, hb⟩ := nat_u32 hB
  obtain ⟨c, rfl, hc⟩ := nat_u32 hC
  obtain ⟨d, rfl, hd⟩ := nat_u32 hD
  have hq : Q4.ok ⟨a, b, c, d⟩ := ⟨ha, hb, hc, hd⟩
  have hr := qr_ok hq
  obtain ⟨r, hre⟩ : ∃ r : Q4, r = qr ⟨a, b, c, d⟩ := ⟨_, rfl⟩
  rw [← hre] at hr
  obtain ⟨p1, p2, p3, p4⟩ := r
  obtain ⟨h1, h2, h3, h4⟩ := hr
  simp only at h1 h2 h3 h4
  have ea : IntKind.u64.wrap (a : Int) = (a : Int) := by rw [IntKind.wrap_u64]; omega
  have eb : IntKind.u64.wrap (b : Int) = (b : Int) := by rw [IntKind.wrap_u64]; omega
  have ec : IntKind.u64.wrap (c : Int) = (c : Int) := by rw [IntKind.wrap_u64]; omega
  have ed : IntKind.u64.wrap (d : Int) = (d : Int) := by rw [IntKind.wrap_u64]; omega
  have e1 : IntKind.u64.wrap (p1 : Int) = (p1 : Int) := by rw [IntKind.wrap_u64]; omega
  have e2 : IntKind.u64.wrap (p2 : Int) = (p2 : Int) := by rw [IntKind.wrap_u64]; omega
  have e3 : IntKind.u64.wrap (p3 : Int) = (p3 : Int) := by rw [IntKind.wrap_u64]; omega
  have e4 : IntKind.u64.wrap (p4 : Int) = (p4 : Int) := by rw [IntKind.wrap_u64]; omega
  have HQ : Hid _ := hq
  have HR : Hid _ := hre
  clear hq hre hA hB hC hD
  go_enter Tryd.func3, Tryd.ntmps3
  go_wp2_with fail
  refine (awake_any _ ht).mono ?_
  rintro e w1 ⟨rfl, b1⟩
  go_wp2_with fail
  refine (quarter_any ⟨a, b, c, d⟩ HQ.out _ _ _ _ rfl rfl rfl rfl _).mono ?_
  rintro e w2 ⟨rfl, rfl⟩
  rw [← HR.out]
  go_wp2_with fail
  refine (quarterR_any ⟨a, b, c, d⟩ HQ.out _ _ _ _ rfl rfl rfl rfl _).mono ?_
  rintro e w3 ⟨rfl, b3⟩
  rw [← HR.out]
  have HB : Hid _ := stepB b1 b3
  clear b1 b3 ht
  go_wp2
  go_ret
  exact ⟨rfl, HB.out⟩
end Go.Proofs.YtlggnknblfclkaaDoor
