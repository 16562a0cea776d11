/- Small polynomials of bytes, and polynomials unpacked: contracts of package sample, second part. -/
import Derived.Test.YtlcnepnappfjeabDoorL12a
import Derived.Test.YtlcnepnappfjeabDoorRef12b
import Derived.Test.YtlcnepnappfjeabDoorZ10a
import Derived.Test.YtlcnepnappfjeabDoorBase
namespace Go.Proofs.YtlcnepnappfjeabDoor
open Go.ChangeShapes Go.WideShapes Go.ChangeAt Go.RowKit
set_option linter.unusedSimpArgs false
set_option linter.unusedVariables false

theorem poInfoS (F : Nat → Int) : (Tryd.prog.info? 25).map (·.size) = some (gI F).length := by rw [gI_length]; kernel_rfl
theorem alloc_poS (w : World) : (Instr.alloc 25 true (.tuple #[])).run Tryd.prog w = .ok (.pointer (some ⟨w.heap.size, 0, none⟩)) (w.alloc (.cells ((gI fun _ => 0).map (Value.int .i64)).toArray 25)) := by kernel_rfl
theorem build_poS (w : World) : (Instr.build 25 #[]).run Tryd.prog w = .ok (poV fun _ => 0) w := by kernel_rfl
theorem put_placeS {f : Nat → FZ} {i : Nat} {G : Nat → Int} (h : ∀ k, k < i → G k = fzF f k) : ∀ k, k < i + 1 → (if k = i then (((f i).val : Nat) : Int) else G k) = fzF f k := by
  intro k hk
  by_cases e : k = i
  · rw [if_pos e, e]
    rfl
  · rw [if_neg e, h k (by omega)]

theorem isEta_in (d : Int) (h1 : 1 ≤ d) (h2 : d ≤ 3) (w : World) :
    Calls Tryd.prog 12 #[.int .i64 d] w fun e w' => e = .returned (.bool true) ∧ w' = w := by
  have d1 : decide (1 ≤ d) = true := decide_eq_true h1
  have d2 : decide (d ≤ 3) = true := decide_eq_true h2
  go_enter Tryd.func12, Tryd.ntmps12
  go_wp2
  go_ret
  exact ⟨rfl, rfl⟩

theorem isEta_out (d : Int) (h : d < 1 ∨ 3 < d) (w : World) :
    Calls Tryd.prog 12 #[.int .i64 d] w fun e w' => e = .returned (.bool false) ∧ w' = w := by
  by_cases h1 : 1 ≤ d
  · have h2 : ¬ d ≤ 3 := by omega
    have h3 : 3 < d := by omega
    have d1 : decide (1 ≤ d) = true := decide_eq_true h1
    have d2 : decide (d ≤ 3) = false := decide_eq_false h2
    clear h
    go_enter Tryd.func12, Tryd.ntmps12
    go_wp2
    go_ret
    exact ⟨rfl, rfl⟩
  · have d1 : decide (1 ≤ d) = false := decide_eq_false h1
    clear h
    go_enter Tryd.func12, Tryd.ntmps12
    go_wp2
    go_ret
    exact ⟨rfl, rfl⟩

theorem packs_in (d : Int) (h1 : 1 ≤ d) (h2 : d ≤ 12) (w : World) :
    Calls Tryd.prog 19 #[.int .i64 d] w fun e w' => e = .returned (.bool true) ∧ w' = w := by
  have d1 : decide (1 ≤ d) = true := decide_eq_true h1
  have d2 : decide (d ≤ 12) = true := decide_eq_true h2
  go_enter Tryd.func19, Tryd.ntmps19
  go_wp2
  go_ret
  exact ⟨rfl, rfl⟩

theorem packs_out (d : Int) (h : d < 1 ∨ 12 < d) (w : World) :
    Calls Tryd.prog 19 #[.int .i64 d] w fun e w' => e = .returned (.bool false) ∧ w' = w := by
  by_cases h1 : 1 ≤ d
  · have h2 : ¬ d ≤ 12 := by omega
    have h3 : 12 < d := by omega
    have d1 : decide (1 ≤ d) = true := decide_eq_true h1
    have d2 : decide (d ≤ 12) = false := decide_eq_false h2
    clear h
    go_enter Tryd.func19, Tryd.ntmps19
    go_wp2
    go_ret
    exact ⟨rfl, rfl⟩
  · have d1 : decide (1 ≤ d) = false := decide_eq_false h1
    clear h
    go_enter Tryd.func19, Tryd.ntmps19
    go_wp2
    go_ret
    exact ⟨rfl, rfl⟩

theorem size_facts (K c d : Nat) (h : K = 8 * c) (hK : K ≤ 1000) (hd : d ≤ 12) : ∃ a s : Nat, s = c * d ∧ IntKind.i64.wrap ((K : Int) * (d : Int)) = (a : Int) ∧ (K : Int) * (d : Int) = (a : Int) ∧ ((a : Nat) : Int).tdiv 8 = (s : Int) ∧ (a : Int) / 8 = (s : Int) ∧ IntKind.i64.wrap (s : Int) = (s : Int) := by
  have e : K * d = 8 * (c * d) := by rw [h, Nat.mul_assoc]
  have h2 : c * d ≤ 125 * 12 := Nat.mul_le_mul (by omega) hd
  have e2 : (K : Int) * (d : Int) = ((8 * (c * d) : Nat) : Int) := by rw [← e, Int.natCast_mul]
  refine ⟨8 * (c * d), c * d, rfl, ?_, e2, ?_, ?_, IntWalk.i64_in _ (by omega)⟩
  · rw [e2, IntWalk.i64_in _ (by omega)]
  · rw [Int.tdiv_eq_ediv_of_nonneg (by omega)]
    generalize c * d = z
    omega
  · generalize c * d = z
    omega
theorem noiseSize_any (e : Nat) (E : Int) (hE : E = (e : Int)) (h : e ≤ 12) (w : World) :
    Calls Tryd.prog 16 #[.int .i64 E] w fun r w' => r = .returned (.int .i64 ((64 * e : Nat) : Int)) ∧ w' = w := by
  subst hE
  obtain ⟨a, s, hs, f1, f2, f3, f4, f5⟩ := size_facts 512 64 e rfl (by omega) h
  have f1 : IntKind.i64.wrap (512 * (e : Int)) = (a : Int) := f1
  have f2 : 512 * (e : Int) = (a : Int) := f2
  have HS : Hid _ := hs
  clear hs
  go_enter Tryd.func16, Tryd.ntmps16
  go_wp2
  go_ret
  exact ⟨retZ (by rw [HS.out]), rfl⟩
theorem packSize_any (e : Nat) (E : Int) (hE : E = (e : Int)) (h : e ≤ 12) (w : World) :
    Calls Tryd.prog 20 #[.int .i64 E] w fun r w' => r = .returned (.int .i64 ((32 * e : Nat) : Int)) ∧ w' = w := by
  subst hE
  obtain ⟨a, s, hs, f1, f2, f3, f4, f5⟩ := size_facts 256 32 e rfl (by omega) h
  have f1 : IntKind.i64.wrap (256 * (e : Int)) = (a : Int) := f1
  have f2 : 256 * (e : Int) = (a : Int) := f2
  have HS : Hid _ := hs
  clear hs
  go_enter Tryd.func20, Tryd.ntmps20
  go_wp2
  go_ret
  exact ⟨retZ (by rw [HS.out]), rfl⟩

set_option maxRecDepth 100000 in
set_option maxHeartbeats 2000000 in
theorem snoise_arg (D : Int) (v : Value) (b : List UInt8) (w : World) (hb : Rd w v b) (h : ¬ (1 ≤ D ∧ D ≤ 3 ∧ (b.length : Int) = 64 * D)) :
    Calls Tryd.prog 6 #[.int .i64 D, v] w fun e w' => e = .returned (.tuple #[poV fun _ => 0, .int .i64 1]) ∧ Below w.heap.size w w' := by
  obtain ⟨ab, cb, rfl, -, -, -, -⟩ := id hb
  clear hb
  go_enter Tryd.func6, Tryd.ntmps6
  go_wp2_with (refine wpList_alloc_row (k := .i64) rfl 25 rfl (gI fun _ => 0) (alloc_poS _) (gI_ne _) (poMax _) ?_)
  intro w1 rz bn sn
  rw [gI_length] at rz
  clear sn
  by_cases h1 : D < 1 ∨ 3 < D
  · clear h
    go_wp2_with fail
    refine (isEta_out D h1 _).mono ?_
    rintro e w2 ⟨rfl, rfl⟩
    clear h1
    go_wp2_with (first | refine wpList_buildB rfl 25 #[] rfl #[] (by simp) _ (build_poS _) ?_ | (refine wpList_store_row rfl 25 _ _ rfl (gI (fzF fun _ => 0)) rfl rfl rz (by rw [gI_length, gI_length]) (poInfoS _) ?_; intro w7 r7 hw7))
    refine bodyPost_po (k := .i64) rfl rfl rfl rfl r7 Tryd.underlying25 rfl (poInfoS _) ?_
    exact ⟨rfl, hw7.below _ _ (Nat.le_refl _) bn⟩
  · obtain ⟨d, rfl⟩ : ∃ d : Nat, D = (d : Int) := ⟨D.toNat, by omega⟩
    obtain ⟨s, hs⟩ : ∃ s : Nat, s = 64 * d := ⟨_, rfl⟩
    have c6 : ((b.length : Int) != (s : Int)) = true := by
      simp only [bne_iff_ne, ne_eq]
      omega
    have c7 : ¬ (b.length : Int) = (s : Int) := by omega
    have HS : Hid _ := hs
    have H1 : Hid (1 ≤ d) := by show 1 ≤ d; omega
    have h3 : d ≤ 3 := by omega
    clear h hs h1
    go_wp2_with fail
    refine (isEta_in d (by have := H1.out; omega) (by omega) _).mono ?_
    rintro e w2 ⟨rfl, rfl⟩
    go_wp2_with fail
    refine (noiseSize_any d _ rfl (by omega) _).mono ?_
    rintro e w2 ⟨rfl, rfl⟩
    rw [← HS.out]
    go_wp2_with (first | refine wpList_buildB rfl 25 #[] rfl #[] (by simp) _ (build_poS _) ?_ | (refine wpList_store_row rfl 25 _ _ rfl (gI (fzF fun _ => 0)) rfl rfl rz (by rw [gI_length, gI_length]) (poInfoS _) ?_; intro w7 r7 hw7))
    refine bodyPost_po (k := .i64) rfl rfl rfl rfl r7 Tryd.underlying25 rfl (poInfoS _) ?_
    exact ⟨rfl, hw7.below _ _ (Nat.le_refl _) bn⟩
theorem noise2_facts (e i : Nat) (h1 : 1 ≤ e) (h3 : e ≤ 3) (hi : i < 256) : ∃ a2 ae ae2 : Nat, ae = 2 * i * e ∧ ae2 = 2 * i * e + e ∧ ae2 + e ≤ 512 * e ∧
    IntKind.i64.wrap (2 * (i : Int)) = (a2 : Int) ∧ IntKind.i64.wrap ((a2 : Int) * (e : Int)) = (ae : Int) ∧ IntKind.i64.wrap ((ae : Int) + (e : Int)) = (ae2 : Int) := by
  have he : e = 1 ∨ e = 2 ∨ e = 3 := by omega
  refine ⟨2 * i, 2 * i * e, 2 * i * e + e, rfl, rfl, ?_, ?_, ?_, ?_⟩
  all_goals rcases he with rfl | rfl | rfl
  all_goals first | omega | (rw [IntWalk.i64_in _ (by omega)]; omega)
set_option maxRecDepth 100000 in
set_option maxHeartbeats 2000000 in
theorem sunpack_arg (D : Int) (v : Value) (b : List UInt8) (w : World) (hb : Rd w v b) (h : ¬ (1 ≤ D ∧ D ≤ 12 ∧ (b.length : Int) = 32 * D)) :
    Calls Tryd.prog 7 #[.int .i64 D, v] w fun e w' => e = .returned (.tuple #[poV fun _ => 0, .int .i64 1]) ∧ Below w.heap.size w w' := by
  obtain ⟨ab, cb, rfl, -, -, -, -⟩ := id hb
  clear hb
  go_enter Tryd.func7, Tryd.ntmps7
  go_wp2_with (refine wpList_alloc_row (k := .i64) rfl 25 rfl (gI fun _ => 0) (alloc_poS _) (gI_ne _) (poMax _) ?_)
  intro w1 rz bn sn
  rw [gI_length] at rz
  clear sn
  by_cases h1 : D < 1 ∨ 12 < D
  · clear h
    go_wp2_with fail
    refine (packs_out D h1 _).mono ?_
    rintro e w2 ⟨rfl, rfl⟩
    clear h1
    go_wp2_with (first | refine wpList_buildB rfl 25 #[] rfl #[] (by simp) _ (build_poS _) ?_ | (refine wpList_store_row rfl 25 _ _ rfl (gI (fzF fun _ => 0)) rfl rfl rz (by rw [gI_length, gI_length]) (poInfoS _) ?_; intro w7 r7 hw7))
    refine bodyPost_po (k := .i64) rfl rfl rfl rfl r7 Tryd.underlying25 rfl (poInfoS _) ?_
    exact ⟨rfl, hw7.below _ _ (Nat.le_refl _) bn⟩
  · obtain ⟨d, rfl⟩ : ∃ d : Nat, D = (d : Int) := ⟨D.toNat, by omega⟩
    obtain ⟨s, hs⟩ : ∃ s : Nat, s = 32 * d := ⟨_, rfl⟩
    have c6 : ((b.length : Int) != (s : Int)) = true := by
      simp only [bne_iff_ne, ne_eq]
      omega
    have c7 : ¬ (b.length : Int) = (s : Int) := by omega
    have HS : Hid _ := hs
    have H1 : Hid (1 ≤ d) := by show 1 ≤ d; omega
    have h3 : d ≤ 12 := by omega
    clear h hs h1
    go_wp2_with fail
    refine (packs_in d (by have := H1.out; omega) (by omega) _).mono ?_
    rintro e w2 ⟨rfl, rfl⟩
    go_wp2_with fail
    refine (packSize_any d _ rfl (by omega) _).mono ?_
    rintro e w2 ⟨rfl, rfl⟩
    rw [← HS.out]
    go_wp2_with (first | refine wpList_buildB rfl 25 #[] rfl #[] (by simp) _ (build_poS _) ?_ | (refine wpList_store_row rfl 25 _ _ rfl (gI (fzF fun _ => 0)) rfl rfl rz (by rw [gI_length, gI_length]) (poInfoS _) ?_; intro w7 r7 hw7))
    refine bodyPost_po (k := .i64) rfl rfl rfl rfl r7 Tryd.underlying25 rfl (poInfoS _) ?_
    exact ⟨rfl, hw7.below _ _ (Nat.le_refl _) bn⟩
end Go.Proofs.YtlcnepnappfjeabDoor
