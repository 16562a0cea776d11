/- A quarter round and a block, reckoned by the kernel. No program's text is named. -/
import Derived.Test.YtlggnknblfclkaaDoorQMath
namespace Go.Proofs.YtlggnknblfclkaaDoor
set_option linter.unusedSimpArgs false
theorem qr_told : qr ⟨286331153, 16909060, 2609737539, 19088743⟩ = ⟨3928658676, 3407673550, 1166100270, 1484899515⟩ := by
  have h : (qr ⟨286331153, 16909060, 2609737539, 19088743⟩).a = 3928658676 ∧ (qr ⟨286331153, 16909060, 2609737539, 19088743⟩).b = 3407673550 ∧ (qr ⟨286331153, 16909060, 2609737539, 19088743⟩).c = 1166100270 ∧ (qr ⟨286331153, 16909060, 2609737539, 19088743⟩).d = 1484899515 := by decide +kernel
  obtain ⟨h1, h2, h3, h4⟩ := h
  generalize qr ⟨286331153, 16909060, 2609737539, 19088743⟩ = q at h1 h2 h3 h4
  obtain ⟨a, b, c, d⟩ := q
  simp only at h1 h2 h3 h4
  subst h1 h2 h3 h4
  rfl
theorem bk_nought : (bkL (List.replicate 32 0) 0 (List.replicate 12 0)).getD 0 0 = 118 := by decide +kernel
end Go.Proofs.YtlggnknblfclkaaDoor
