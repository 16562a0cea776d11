/- The walk of the law SampleBits. -/
import Derived.Test.YtlcnepnappfjeaaDoorL12h
import Derived.Test.YtlcnepnappfjeaaDoorL12i
import Derived.Test.YtlcnepnappfjeaaDoorRef12h
import Derived.Test.YtlcnepnappfjeaaDoorNum
namespace Go.Proofs.YtlcnepnappfjeaaDoor
open Go.ChangeShapes Go.WideShapes Go.ChangeAt Go.RowKit
set_option linter.unusedSimpArgs false
set_option linter.unusedVariables false

theorem alF_po (K : Nat) (c : Int) (h : In64 c) : Po (alF K c) := ⟨fun k => by unfold alF; split; exact h; exact ⟨by decide, by decide⟩⟩
theorem alF_set (K : Nat) (c : Int) : gI (fun i => if i = K then c else 0) = gI (alF K c) := rfl
theorem in64S {a : Int} (h : (Lit.int .i64 a).wf = true) : In64 a := by
  have := bounds_i64 h
  exact ⟨by omega, by omega⟩
theorem nat_ne (i K : Nat) (h : i ≠ K) : ((i : Int) != (K : Int)) = true := by
  simp only [bne_iff_ne, ne_eq]
  omega

set_option maxRecDepth 100000 in
set_option maxHeartbeats 8000000 in
theorem bits_walk (D a c : Int) (ha : In64 a) (hc : In64 c) (w : World) (hT : Tabs w) :
    Calls Tryd.prog 8 #[.int .i64 D, .int .i64 a, .int .i64 c] w fun e w' => e = .returned (.bool true) ∧ Below w.heap.size w w' := by
  have HC : Hid (In64 c) := hc
  have hand := and_low 8 (by decide) a ha
  have hK := twZ_lt 8 a
  rw [show (((2 ^ 8 - 1 : Nat)) : Int) = 255 from rfl] at hand
  rw [show (2 : Nat) ^ 8 = 256 from rfl] at hK
  generalize twZ 8 a = K at hand hK
  have hKI : (K : Int) < 256 := by omega
  have HK : Hid (K < 256) := hK
  clear hc ha
  go_enter Tryd.func8, Tryd.ntmps8
  go_wp2_with fail
  refine (awake_any _ hT).mono ?_
  rintro e w1 ⟨rfl, hbw⟩
  clear hT
  go_wp2_with (refine wpList_alloc_row (k := .i64) rfl 24 rfl (gI fun _ => 0) (alloc_po _) (gI_ne _) (poMax _) ?_)
  intro w2 qF bn sn
  rw [gI_length] at qF
  have hg := hbw.size
  replace hbw := stepB hbw bn
  clear bn sn
  go_wp2_with (refine wpList_store_int rfl _ _ rfl rfl c rfl qF (by rw [gI_length]; exact HK.out) ?_)
  intro w3 q3 hw
  rw [gI_set, alF_set] at q3
  replace hbw := hw.below _ _ hg hbw
  have HP : Hid (Po (alF K c)) := alF_po K c HC.out
  have HU : Hid (∀ i, i < 256 → i ≠ K → ((upA D (pkA D (alF K c))).1 i).val = 0) := by show ∀ i, _; intro i h1 h2; exact up_alone D K c i h1 h2
  clear hw qF hg
  obtain ⟨F, hF⟩ : ∃ F : Nat → Int, F = alF K c := ⟨_, rfl⟩
  rw [← hF] at q3 HP HU
  clear hF
  go_wp2_with (refine wpList_valG (exec_load_row' 24 (.tmp 9) rfl rfl q3 (Below.refl _ _) _ Tryd.underlying24 rfl (poInfo _)) (by go_simp; done) ?_)
  refine (spack_all D _ F HP.out rfl _).mono ?_
  rintro e w4 ⟨v4, rfl, x4, b4⟩
  obtain ⟨B, hB⟩ : ∃ B : List UInt8, B = pkA D F := ⟨_, rfl⟩
  rw [← hB] at x4 HU
  have HB : Hid _ := hB
  replace q3 := q3.kept b4
  replace hbw := stepB hbw b4
  clear hB b4
  obtain ⟨av, cv, rfl, -⟩ := id x4
  go_wp2_with fail
  replace q3 := q3.drew
  replace x4 := x4.drew
  replace hbw := hbw.drew
  refine wpG_begin (by kernel_rfl) ?_
  refine wpG_take (i := 0) (oi := { dst := some 27, op := Op.move (Operand.tmp 10), type := 22, pos := "law.go:114", after := #[], guard := none }) (v := ?_) rfl (by kernel_rfl) (by kernel_rfl) (by kernel_rfl) (by rfl) ?_ ?_
  rotate_left
  · intro W hW; first | (go_simp; done) | (go_simp; with_reducible rfl)
  try simp only [Act.put, List.setIfInBounds_toArray, List.set_cons_zero, List.set_cons_succ]
  refine wpG_take (i := 1) (oi := { dst := some 28, op := Op.convert 22 9 (Operand.tmp 27), type := 9, pos := "law.go:114", after := #[{ on := 0, ground := Ground.data }], guard := none }) (v := ?_) rfl (by kernel_rfl) (by kernel_rfl) (by kernel_rfl) (by rfl) ?_ ?_
  rotate_left
  · intro W hW; have hcv := convS (x4.kept hW); first | (go_simp; done) | (go_simp; with_reducible rfl)
  try simp only [Act.put, List.setIfInBounds_toArray, List.set_cons_zero, List.set_cons_succ]
  refine wpG_take (i := 2) (oi := { dst := some 29, op := Op.move (Operand.tmp 0), type := 3, pos := "law.go:114", after := #[], guard := none }) (v := ?_) rfl (by kernel_rfl) (by kernel_rfl) (by kernel_rfl) (by rfl) ?_ ?_
  rotate_left
  · intro W hW; first | (go_simp; done) | (go_simp; with_reducible rfl)
  try simp only [Act.put, List.setIfInBounds_toArray, List.set_cons_zero, List.set_cons_succ]
  refine wpG_take (i := 3) (oi := { dst := some 30, op := Op.load 24 (Operand.tmp 9), type := 24, pos := "law.go:114", after := #[], guard := none }) (v := ?_) rfl (by kernel_rfl) (by kernel_rfl) (by kernel_rfl) (by rfl) ?_ ?_
  rotate_left
  · intro W hW; refine Eq.trans (exec_load_row' 24 _ (by rfl) (by rfl) q3 hW _ Tryd.underlying24 rfl (poInfo _)) ?_; with_reducible rfl
  try simp only [Act.put, List.setIfInBounds_toArray, List.set_cons_zero, List.set_cons_succ]
  refine wpG_do (i := 4) (o := { dst := some 31, op := Op.call { callee := Callee.value (Operand.func 19), args := #[Operand.tmp 29, Operand.tmp 30], argTypes := #[3, 24] }, type := 22, pos := "law.go:114", after := #[{ on := 2, ground := Ground.data }, { on := 3, ground := Ground.data }], guard := none }) (by kernel_rfl) rfl (by rfl) fun K hK => ?_
  go_simp
  refine (pack12_all D _ F HP.out rfl _).mono ?_
  rintro e w5 ⟨v5, rfl, x5, b5⟩
  rw [← HB.out] at x5
  replace q3 := q3.kept b5
  replace x4 := x4.kept b5
  replace hbw := stepB hbw b5
  refine hK.out _ _ b5 ?_
  clear hK K
  try simp only [Act.put, List.setIfInBounds_toArray, List.set_cons_zero, List.set_cons_succ]
  refine wpG_take (i := 5) (oi := { dst := some 32, op := Op.convert 22 9 (Operand.tmp 31), type := 9, pos := "law.go:114", after := #[{ on := 4, ground := Ground.data }], guard := none }) (v := ?_) rfl (by kernel_rfl) (by kernel_rfl) (by kernel_rfl) (by rfl) ?_ ?_
  rotate_left
  · intro W hW; have hcv := convS (x5.kept hW); first | (go_simp; done) | (go_simp; with_reducible rfl)
  try simp only [Act.put, List.setIfInBounds_toArray, List.set_cons_zero, List.set_cons_succ]
  refine wpG_take (i := 6) (oi := { dst := some 33, op := Op.binOp BinOp.neq 9 (Operand.tmp 28) (Operand.tmp 32) 9, type := 4, pos := "law.go:114", after := #[{ on := 1, ground := Ground.data }, { on := 5, ground := Ground.data }], guard := none }) (v := ?_) rfl (by kernel_rfl) (by kernel_rfl) (by kernel_rfl) (by rfl) ?_ ?_
  rotate_left
  · intro W hW; first | (go_simp; done) | (go_simp; with_reducible rfl)
  try simp only [Act.put, List.setIfInBounds_toArray, List.set_cons_zero, List.set_cons_succ]
  refine wpG_done (by kernel_rfl) ?_
  clear q3 x5
  go_wp2_with fail
  refine (sunpack_all D _ B _ x4).mono ?_
  rintro e d1 ⟨he, bn⟩
  obtain ⟨Pa, hP⟩ : ∃ P : Nat → FZ, P = (upA D B).1 := ⟨_, rfl⟩
  obtain ⟨ea, hE⟩ : ∃ z : Int, z = (upA D B).2 := ⟨_, rfl⟩
  rw [← hP, ← hE] at he
  have HPa : Hid _ := hP
  have HEa : Hid _ := hE
  clear hP hE
  subst he
  have hb0 := bn
  go_wp2_with (refine wpList_alloc_row (k := .i64) rfl 25 rfl (gI fun _ => 0) (alloc_poS _) (gI_ne _) (poMax _) ?_)
  intro e1 ro bo so
  rw [gI_length] at ro
  replace hb0 := stepB hb0 bo
  clear so bo
  go_wp2_with (refine wpList_store_row rfl 25 _ _ rfl (gI (fzF Pa)) rfl rfl ro (by rw [gI_length, gI_length]) (poInfoS _) ?_)
  intro g1 ra hw
  replace hb0 := hw.below _ _ bn.size hb0
  replace x4 := x4.kept hb0
  replace hbw := stepB hbw hb0
  clear hb0 hw bn ro
  go_wp2_with fail
  refine (unpack12_all D _ B _ x4).mono ?_
  rintro e d2 ⟨he, bn⟩
  rw [← HPa.out, ← HEa.out] at he
  subst he
  have hb0 := bn
  go_wp2_with (refine wpList_alloc_row (k := .i64) rfl 24 rfl (gI fun _ => 0) (alloc_po _) (gI_ne _) (poMax _) ?_)
  intro e2 ro bo so
  rw [gI_length] at ro
  replace hb0 := stepB hb0 bo
  clear so bo
  go_wp2_with (refine wpList_store_row rfl 24 _ _ rfl (gI (fzF Pa)) rfl rfl ro (by rw [gI_length, gI_length]) (poInfo _) ?_)
  intro g2 rb hw
  replace hb0 := hw.below _ _ bn.size hb0
  replace x4 := x4.kept hb0
  replace ra := ra.kept hb0
  replace hbw := stepB hbw hb0
  clear hb0 hw bn ro
  rw [← HPa.out] at HU
  have qa : ∀ w, _ := eq_poS (f := Pa) (g := Pa) (fun _ _ => rfl)
  unfold poV at qa
  go_wp2_with (first
    | refine wpList_valG (exec_load_row' 25 (.tmp 11) rfl rfl ra (Below.refl _ _) _ Tryd.underlying25 rfl (poInfoS _)) (by go_simp; done) ?_
    | refine wpList_valG (exec_load_row' 24 (.tmp 13) rfl rfl rb (Below.refl _ _) _ Tryd.underlying24 rfl (poInfo _)) (by go_simp; done) ?_)
  clear rb qa x4
  rename World => wv
  go_loopw [15] (fun iv wx => ∃ i : Nat, i ≤ 256 ∧ iv = .int .i64 (i : Int) ∧ wx = wv) (fun iv _ => 256 - (intOf iv).toNat)
  case atStart => exact ⟨0, by omega, rfl, rfl⟩
  case round =>
    obtain ⟨i, hi, rfl, rfl⟩ := hrel
    by_cases hlt : i < 256
    · have hd : decide ((i : Int) < 256) = true := decide_eq_true (by omega)
      have hiI : (i : Int) < 256 := by omega
      by_cases hik : i = K
      · have hb1 : ((i : Int) != (K : Int)) = false := by rw [hik]; simp
        have hb2 : (i : Int) = (K : Int) := by rw [hik]
        have hb3 : ((i : Int) == (K : Int)) = true := by rw [hik]; simp
        clear hik
        go_wp2
        go_roundw
        case rel => exact ⟨i + 1, by omega, by go_num, trivial⟩
        case measure => simp [intOf] <;> omega
      · have hb1 := nat_ne i K hik
        have hb2 : ¬ (i : Int) = (K : Int) := by omega
        have hb3 : ((i : Int) == (K : Int)) = false := by simpa using hb2
        have hcell := cell_fzS ra i hlt 0 (by rw [HU.out i hlt hik]; rfl)
        clear hik
        go_wp2
        go_roundw
        case rel => exact ⟨i + 1, by omega, by go_num, trivial⟩
        case measure => simp [intOf] <;> omega
    · have hd : decide ((i : Int) < 256) = false := decide_eq_false (by omega)
      have hiI : (256 : Int) ≤ (i : Int) := by omega
      go_wp2
      go_ret
      exact ⟨rfl, hbw⟩
end Go.Proofs.YtlcnepnappfjeaaDoor
